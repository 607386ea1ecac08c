package sieve_test

import (
	"fmt"
	"strings"
	"testing"

	"sieve/api"
	"sieve/sieve"
)

func compiled(t *testing.T, selectors ...string) []byte {
	t.Helper()
	code, errno, number := sieve.Compile(selectors)
	if errno != api.OK || number != 0 {
		t.Fatalf("Compile(%q): %d, %d", selectors, errno, number)
	}
	return code
}

func wantRefused(t *testing.T, want api.Errno, at int, texts ...string) {
	t.Helper()
	if code, errno, number := sieve.Compile(texts); len(code) != 0 || errno != want || number != at {
		t.Errorf("Compile(%.300q): %d bytes, %d, %d, want %d, %d", texts, len(code), errno, number, want, at)
	}
}

func times(n int, selector string) []string {
	out := make([]string, n)
	for i := range out {
		out[i] = selector
	}
	return out
}

// joined gives the OR of n names from a number on: n names and n - 1 ORs.
func joined(from, n int) string {
	var names []string
	for i := range n {
		names = append(names, fmt.Sprintf("n%02d", from+i))
	}
	return strings.Join(names, " OR ")
}

func TestP6HowMany(t *testing.T) {
	for n := range 9 {
		compiled(t, times(n, "a")...)
	}
	for _, n := range []int{9, 10, 100, 1 << 16} {
		wantRefused(t, api.ErrFull, 0, times(n, "a")...)
		wantRefused(t, api.ErrFull, 0, times(n, "#")...) // ahead of every other error
	}
	wantRefused(t, api.ErrFull, 0, append(times(8, "a"), "")...)
}

func TestP6FirstError(t *testing.T) {
	deep, long := strings.Repeat("(", 13), strings.Repeat(" ", 201)
	for _, c := range []struct {
		text string
		want api.Errno
	}{
		{"", api.ErrSyntax}, {"a b", api.ErrSyntax}, {"a AND 1", api.ErrType}, {"a + 1", api.ErrType}, {deep, api.ErrDeep}, {"a OR " + deep, api.ErrDeep}, {long, api.ErrLong},
	} {
		for at := range 8 {
			texts := times(8, "a")
			texts[at] = c.text
			wantRefused(t, c.want, at, texts...)
			texts = append(texts[:at+1], times(7-at, "#")...)
			wantRefused(t, c.want, at, texts...)
		}
	}
	wantRefused(t, api.ErrType, 1, "c", "a AND 1", "", deep, long)
	wantRefused(t, api.ErrDeep, 0, deep, long, "1")
	wantRefused(t, api.ErrLong, 2, "c", "c", long, deep)
}

func TestP6Full(t *testing.T) {
	first, second := joined(0, 20), joined(20, 20) // 78 terms
	compiled(t, first, second, "x", "y")
	compiled(t, first, second, "NOT x")
	compiled(t, "NOT x", second, first, second, "x")
	wantRefused(t, api.ErrFull, 4, first, second, "x", "y", "z")
	wantRefused(t, api.ErrFull, 4, first, second, "x", "y", "z", "TRUE", "")
	wantRefused(t, api.ErrFull, 2, first, second, "NOT NOT x")
	wantRefused(t, api.ErrFull, 2, first, second, "x OR y", "#")
	wantRefused(t, api.ErrFull, 2, "x", first, "NOT y OR "+second)
	wantRefused(t, api.ErrSyntax, 4, first, second, "x", "y", "z z")
	wantRefused(t, api.ErrSyntax, 3, first, second, "x", "#", "y", "z")
	wantRefused(t, api.ErrType, 2, first, second, "1", "x OR y OR z")
}

// TestP6FullAtOnce has more than 80 terms in one selector: the name, each
// text with its equation, and the ORs between them.
func TestP6FullAtOnce(t *testing.T) {
	in := func(n int) string {
		var texts []string
		for i := range n {
			texts = append(texts, quote(string(rune('A'+i))))
		}
		return "a IN (" + strings.Join(texts, ",") + ")"
	}
	compiled(t, in(26)) // 78 terms
	compiled(t, in(26), "NOT a", "A")
	wantRefused(t, api.ErrFull, 0, in(27))
	wantRefused(t, api.ErrFull, 1, "a", in(27), "")
	wantRefused(t, api.ErrFull, 0, "a IN ('"+strings.Join(strings.Split("abcdefghijklmnopqrstuvwxyzABCDEFGHIJKLMNOPQRST", ""), "','")+"')")
}

// TestP6Shared fills 78 places, so that what is counted twice does not fit.
func TestP6Shared(t *testing.T) {
	full := []string{joined(0, 20), joined(20, 20)}
	for _, two := range [][]string{
		{"NOT x", "x"}, {"x IS NULL", "x IS NULL"}, {"x LIKE 'p'", "x LIKE 'p'", "x like 'p'", "NOT x NOT LIKE 'p'"}, {"x LIKE 'p' ESCAPE 'e'", "x", "x LIKE 'p' ESCAPE 'e'"},
		{"NOT TRUE", "NOT FALSE"}, {"TRUE", "FALSE"}, {"x = x"}, {"x < x", "x > x"}, {"NOT x", "NOT NOT NOT x"}, {"x AND x"}, {"x", "n00", "y", "n20"},
		{"n01 OR n00", "x"}, {"n00 OR n01 OR n02", "n02 OR (n01 OR n00)", "NOT x"}, {"x = x", "NOT x <> x"},
	} {
		compiled(t, append(full[:2:2], two...)...)
	}
	for _, three := range [][]string{
		{"NOT x", "y"}, {"x LIKE 'p'", "x LIKE 'q'"}, {"x LIKE 'p'", "x LIKE 'p' ESCAPE 'e'"}, {"x LIKE 'p' ESCAPE 'e'", "x LIKE 'p' ESCAPE 'f'"}, {"x = 1"}, {"x = x", "'x' = 'x'"}, {"x", "y", "X"},
		{"x < x", "x <= x"}, {"x AND x", "x OR x"}, {"x IS NULL", "NOT x"}, {"x", "x = n00", "x = n01"}, {"x IS NOT NULL"}, {"NOT x = x"}, {"n02 OR n01", "n02 OR n00", "n03 OR n00"}, {"x < n00", "n00 < x"},
	} {
		wantRefused(t, api.ErrFull, 1+len(three), append(full[:2:2], three...)...)
	}
}

func TestP6Bytes(t *testing.T) {
	long := strings.Repeat("n", 200)
	for _, selectors := range [][]string{
		nil, {"a"}, {"TRUE"}, times(8, "FALSE"), {long}, times(8, long), {"a = '" + long[:190] + "'"}, {"a LIKE '" + long[:180] + "'"}, {"a LIKE '" + long[:180] + "' ESCAPE '!'"}, {"a LIKE '" + strings.Repeat("''", 90) + "' ESCAPE '!'"},
		{"9223372036854775807 < 9223372036854775806", "-9223372036854775807 = 0"}, {"a = '" + strings.Repeat("''", 90) + "'"}, {"a LIKE '' ESCAPE ''''", "a LIKE ''", "a = ''", "a"},
		{joined(0, 20), joined(20, 20), "x", "y"}, times(8, joined(0, 28)), {"a + 1 < b - 2 * c / 3", "NOT (a + 1 < b - 2 * c / 3)", "a BETWEEN 1 AND 2", "b IS NOT NULL", "b NOT IN ('x', 'y''')"},
	} {
		all := terms{}
		for _, selector := range selectors {
			canon, _, _ := sieve.Canon(selector)
			all.add(canon)
		}
		most := 16 + all.bytes() + 4*len(selectors)
		if code := compiled(t, selectors...); len(code) > most {
			t.Errorf("Compile(%.300q): %d bytes, want at most %d", selectors, len(code), most)
		}
	}
}

// TestP6TermsOfTexts holds the tests' own count of terms against the document's.
func TestP6TermsOfTexts(t *testing.T) {
	for canon, want := range map[string][2]int{
		"a": {1, 17}, "TRUE": {1, 16}, "(('x' = b) AND (3 < a))": {7, 7*16 + 3}, "(a LIKE 'it''s')": {2, 2*16 + 5}, "(NOT (a LIKE 'it' ESCAPE '!'))": {3, 3*16 + 3}, "((a IS NULL) OR (a IS NULL))": {3, 3*16 + 1}, "(('y' = a) OR (a LIKE 'y'))": {5, 5*16 + 3}, "('' = a)": {3, 3*16 + 1}, "((0 - 10) <= 0)": {4, 4 * 16},
	} {
		ts := terms{}
		if ts.add(canon); len(ts) != want[0] || ts.bytes() != want[1] {
			t.Errorf("%s: %v, %d", canon, ts, ts.bytes())
		}
	}
}
