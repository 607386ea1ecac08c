package sieve_test

import (
	"slices"
	"testing"

	"sieve/api"
	"sieve/sieve"
)

// TestP12Terms counts what selectors have together, in whichever order they come.
func TestP12Terms(t *testing.T) {
	for _, c := range []struct {
		want      int
		selectors []string
	}{
		{0, nil}, {1, []string{"a"}}, {1, []string{"TRUE"}}, {1, []string{"a", "(a)", " a "}}, {2, []string{"a", "A"}}, {1, []string{"true", "TRUE", "NOT FALSE", "not not True"}}, {2, []string{"TRUE", "FALSE"}},
		{7, []string{"a > 3 AND b = 'x'"}}, {5, []string{"a > 3", "3 < a AND c"}}, {3, []string{"a > 3", "3 < a", "NOT a <= 3", "NOT 3 >= a"}}, {4, []string{"a < b", "b < a"}}, {4, []string{"a < b", "NOT a < b"}},
		{3, []string{"a = b", "b = a"}}, {4, []string{"a = b", "a <> b", "NOT b = a", "NOT b <> a"}}, {6, []string{"a - b = 1", "1 = a - b", "NOT a - b = 1"}}, {6, []string{"a - b = b - a", "b - a = a - b", "NOT a - b <> b - a", "a = b"}}, {9, []string{"- a + 2 * 3 = 1", "1 = 3 * 2 + -a"}},
		{2, []string{"a IS NULL"}}, {3, []string{"a IS NULL", "a IS NOT NULL"}}, {3, []string{"a", "NOT a", "NOT NOT a", "NOT NOT NOT a"}}, {2, []string{"a LIKE 'x'", "a LIKE 'x'"}}, {5, []string{"a LIKE 'x'", "a LIKE 'y'", "a LIKE 'x' ESCAPE 'e'", "a LIKE 'x' ESCAPE 'f'"}}, {4, []string{"a LIKE 'x'", "a = 'x'"}},
		{6, []string{"a IN ('x', 'y')", "a IN ('y', 'x', 'y')", "a = 'x' OR 'y' = a"}}, {9, []string{"a IN ('x', 'y')", "a NOT IN ('y', 'x')"}}, {6, []string{"a BETWEEN 1 AND 5", "1 <= a AND a <= 5"}}, {9, []string{"a BETWEEN 1 AND 5", "a NOT BETWEEN 1 AND 5"}}, {5, []string{"a = 1", "a = '1'"}}, {4, []string{"a = 1 AND 1 = a", "1 = a"}},
	} {
		wantTerms(t, c.want, c.selectors)
	}
}

func wantTerms(t *testing.T, want int, selectors []string) {
	t.Helper()
	backwards := slices.Clone(selectors)
	slices.Reverse(backwards)
	for _, row := range [][]string{selectors, backwards} {
		if got := subscribed(t, row...).Nodes(); got != want {
			t.Errorf("%q have %d terms, want %d", row, got, want)
		}
	}
}

// TestP12TermsOfMany counts step by step, as subscriptions come and go.
func TestP12TermsOfMany(t *testing.T) {
	b := sieve.New()
	for _, s := range []struct {
		id       int
		selector string // empty: it goes
		want     int
	}{
		{4, "a > 3 AND b = 'x'", 7}, {2, "b = 'x'", 7}, {9, "NOT b = 'x'", 8}, {1, "a > 3 OR b <> 'x'", 9}, {4, "", 8}, {2, "", 8}, {9, "", 8}, {9, "a", 8}, {1, "", 1}, {3, "a + a = a", 3}, {9, "", 3}, {3, "", 0}, {3, "x", 1},
	} {
		if s.selector == "" {
			wantUnsubscribe(t, b, s.id, api.OK)
		} else {
			wantSubscribe(t, b, s.id, s.selector, api.OK, 0)
		}
		if got := b.Nodes(); got != s.want {
			t.Errorf("behind %v: %d terms", s, got)
		}
	}
}

// TestP12Most has 80 terms, in one selector and in several.
func TestP12Most(t *testing.T) {
	wantTerms(t, 80, []string{joined(0, 20), joined(20, 20), "x", "y"})
	wantTerms(t, 80, []string{joined(0, 20), joined(20, 20), "NOT x", joined(0, 20), joined(20, 20), "x"})
	wantTerms(t, 55, times(8, joined(0, 28)))
}

// TestP12Still looks whether asking, publishing and polling leave all as it is.
func TestP12Still(t *testing.T) {
	b := subscribed(t, "a > 3", "3 < a AND c")
	for number := 1; number < 9; number++ {
		wantState(t, b, 5, 0, 1)
		wantState(t, b, 5, 0, 1)
		wantPublish(t, b, 0, example(), []int{0, 1}, nil)
		wantState(t, b, 5, 0, 1)
		wantPolls(t, b, 1, number, 0)
		wantPolls(t, b, 0, number)
		wantNobody(t, b, 2)
		wantNoMessage(t, b, 10, nil)
	}
}

// TestP12Rising has five subscriptions come in every order, and one of them go.
func TestP12Rising(t *testing.T) {
	for _, order := range orders([]int{-7, -1, 0, 3, 1 << 40}) {
		b := sieve.New()
		var there []int
		for _, id := range order {
			wantSubscribe(t, b, id, "c", api.OK, 0)
			there = append(there, id)
			wantState(t, b, 1, slices.Sorted(slices.Values(there))...)
		}
		wantPublish(t, b, 0, example(), []int{-7, -1, 0, 3, 1 << 40}, nil)
		wantUnsubscribe(t, b, order[0], api.OK)
		wantState(t, b, 1, slices.Sorted(slices.Values(order[1:]))...)
	}
}

// orders gives a list in all its orders.
func orders(list []int) [][]int {
	if len(list) == 0 {
		return [][]int{nil}
	}
	var out [][]int
	for i, first := range list {
		for _, rest := range orders(slices.Delete(slices.Clone(list), i, i+1)) {
			out = append(out, append([]int{first}, rest...))
		}
	}
	return out
}
