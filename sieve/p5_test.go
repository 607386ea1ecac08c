package sieve_test

import (
	"strings"
	"testing"

	"sieve/api"
	"sieve/sieve"
)

func wantCanon(t *testing.T, want string, selectors ...string) {
	t.Helper()
	for _, selector := range selectors {
		if got, errno, place := sieve.Canon(selector); got != want || errno != api.OK || place != 0 {
			t.Errorf("Canon(%q) = %q, %d, %d, want %q", selector, got, errno, place, want)
		}
	}
}

func TestP5Examples(t *testing.T) {
	wantCanon(t, "(('x' = b) AND (3 < a))", "a > 3 AND b = 'x'")
	wantCanon(t, "('x' = a)", "a IN ('x')")
	wantCanon(t, "((1 <= a) AND (a <= 5))", "a BETWEEN 1 AND 5")
	wantCanon(t, "((5 < a) OR (a < 1))", "a NOT BETWEEN 1 AND 5")
	wantCanon(t, "((NOT ('x' = b)) OR (NOT (1 = a)))", "NOT (a = 1 AND b = 'x')")
	wantCanon(t, "(NOT (NOT c))", "NOT NOT c")
	wantCanon(t, "(1 = a)", "NOT NOT (a = 1)")
	wantCanon(t, "(((0 - a) + (2 * 3)) = 1)", "- a + 2 * 3 = 1")
	wantCanon(t, "(('x' = b) OR ('y' = b))", "b IN ('y', 'x', 'y')")
}

func TestP5Words(t *testing.T) {
	wantCanon(t, "a", "a", " a\t\n", "(a)", "(( (a)))")
	wantCanon(t, "$X._9.", "$X._9.")
	wantCanon(t, "TRUE", "TRUE", "true", "(tRuE)")
	wantCanon(t, "FALSE", "FALSE", "False")
	wantCanon(t, "(0 = a)", "a = 0", "a = 000", "0=a")
	wantCanon(t, "(12030 = a)", "0012030 = a")
	wantCanon(t, "(9223372036854775807 = a)", "a = 0009223372036854775807")
	wantCanon(t, "('' = a)", "a = ''")
	wantCanon(t, "('''' = a)", "a = ''''")
	wantCanon(t, "('it''s ''' = a)", "a = 'it''s '''")
	wantCanon(t, "('\x00\xff\n\\\"' = a)", "a = '\x00\xff\n\\\"'")
	wantCanon(t, "('(a OR b)' = a)", "a = '(a OR b)'")
	wantCanon(t, strings.Repeat("n", 200), strings.Repeat("n", 200))
}

func TestP5Signs(t *testing.T) {
	wantCanon(t, "((0 + a) < 1)", "+a < 1", "+ (a) < 1")
	wantCanon(t, "((0 - a) < 1)", "-a < 1", "0 - a < 1")
	wantCanon(t, "((0 - 9223372036854775807) < a)", "-9223372036854775807 < a")
	wantCanon(t, "((0 - (0 - a)) < 1)", "--a < 1")
	wantCanon(t, "(((0 - a) + 0) < 1)", "+-a < 1")
	wantCanon(t, "((0 - (0 + a)) < 1)", "-+a < 1")
	wantCanon(t, "((a - (0 - b)) < 1)", "a - -b < 1")
	wantCanon(t, "(((0 - a) * b) < 1)", "-a * b < 1", "b * -a < 1")
}

func TestP5Comparisons(t *testing.T) {
	wantCanon(t, "(a < b)", "a < b", "b > a", "NOT a >= b", "NOT b <= a", "NOT NOT a < b", "NOT (NOT (b > a))")
	wantCanon(t, "(a <= b)", "a <= b", "b >= a", "NOT a > b", "NOT b < a", "NOT NOT b >= a")
	wantCanon(t, "(b < a)", "b < a", "a > b")
	wantCanon(t, "(a = b)", "a = b", "b = a", "NOT a <> b", "NOT NOT b = a")
	wantCanon(t, "(NOT (a = b))", "a <> b", "b <> a", "NOT a = b", "NOT NOT b <> a", "NOT NOT NOT a = b")
	wantCanon(t, "(TRUE = a)", "a = TRUE", "true = a")
	wantCanon(t, "((a < 1) = (b < 2))", "(b < 2) = (a < 1)")
	wantCanon(t, "((NOT a) = b)", "b = (NOT a)", "(not a) = b")
}

func TestP5Between(t *testing.T) {
	wantCanon(t, "((1 <= a) AND (a <= 1))", "a BETWEEN 1 AND 1")
	wantCanon(t, "((a <= 1) AND (b <= a))", "a BETWEEN b AND 1")
	wantCanon(t, "(((1 + a) <= b) AND (0 <= (1 + a)))", "a + 1 BETWEEN 0 AND b")
	wantCanon(t, "((5 < a) OR (a < 1))", "NOT a BETWEEN 1 AND 5", "NOT NOT a NOT BETWEEN 1 AND 5")
	wantCanon(t, "((1 <= a) AND (a <= 5))", "NOT a NOT BETWEEN 1 AND 5")
	wantCanon(t, "(((1 <= a) AND (a <= 5)) AND c)", "c AND a BETWEEN 1 AND 5 ")
}

func TestP5In(t *testing.T) {
	wantCanon(t, "('x' = a)", "a IN ('x')", "a in ('x', 'x' ,'x')", "NOT a NOT IN ('x')")
	wantCanon(t, "(('c' = a) OR (('a' = a) OR ('b' = a)))", "a IN ('c','b','a')", "a IN ('b','a','c','b','a')")
	wantCanon(t, "(('d' = a) OR (('c' = a) OR (('a' = a) OR ('b' = a))))", "a IN ('d','c','b','a')")
	// The empty text is the least one, but its canonical text is not.
	wantCanon(t, "(('''' = a) OR (('!' = a) OR ('' = a)))", "a IN ('''', '', '!')")
	wantCanon(t, "(('B' = b) OR ('a' = b))", "b IN ('a', 'B')")
	wantCanon(t, "($x = '')", "$x IN ('')")
	wantCanon(t, "(NOT ('x' = a))", "a NOT IN ('x')", "NOT a IN ('x')")
	wantCanon(t, "((NOT ('y' = a)) AND (NOT ('z' = a)))", "a NOT IN ('z', 'y')")
}

func TestP5LikeAndNull(t *testing.T) {
	wantCanon(t, "(a LIKE '')", "a LIKE ''")
	wantCanon(t, "(a LIKE 'x%_''')", "a like 'x%_'''", "NOT a NOT LIKE 'x%_'''")
	wantCanon(t, "(a LIKE 'x!%' ESCAPE '!')", "a LIKE 'x!%' ESCAPE '!'")
	wantCanon(t, "(a LIKE 'x' ESCAPE '!')", "a LIKE 'x' ESCAPE '!'")
	wantCanon(t, "(a LIKE '''''' ESCAPE '''')", "a LIKE '''''' ESCAPE ''''")
	wantCanon(t, "(NOT (a LIKE 'x'))", "a NOT LIKE 'x'", "NOT a LIKE 'x'")
	wantCanon(t, "(NOT (a LIKE 'x' ESCAPE '!'))", "a NOT LIKE 'x' ESCAPE '!'")
	wantCanon(t, "(a IS NULL)", "a IS NULL", "a is null", "NOT a IS NOT NULL", "NOT NOT a IS NULL")
	wantCanon(t, "(NOT (a IS NULL))", "a IS NOT NULL", "NOT a IS NULL")
}

func TestP5Not(t *testing.T) {
	wantCanon(t, "(NOT a)", "NOT a", "NOT (a)", "NOT NOT NOT a", "NOT NOT (NOT NOT NOT a)")
	wantCanon(t, "(NOT (NOT a))", "NOT NOT a", "NOT (NOT (a))", "NOT NOT NOT NOT a")
	wantCanon(t, "FALSE", "NOT TRUE", "NOT NOT FALSE")
	wantCanon(t, "TRUE", "NOT FALSE", "NOT NOT TRUE")
	wantCanon(t, "((NOT a) OR (NOT b))", "NOT (a AND b)", "NOT (b AND a)")
	wantCanon(t, "((NOT a) AND (NOT b))", "NOT (a OR b)")
	wantCanon(t, "((NOT (NOT a)) AND (NOT (NOT b)))", "NOT NOT (a AND b)", "NOT (NOT a OR NOT b)")
	wantCanon(t, "((1 <= a) OR (2 = b))", "NOT (a < 1 AND b <> 2)")
	wantCanon(t, "(((NOT a) OR FALSE) AND (b < 1))", "NOT (a AND TRUE OR b >= 1)")
	wantCanon(t, "(((NOT a) OR (NOT b)) AND (NOT c))", "NOT (a AND b OR c)")
	wantCanon(t, "(NOT ((NOT a) = (NOT b)))", "(NOT a) <> (NOT b)")
}

func TestP5Order(t *testing.T) {
	wantCanon(t, "(a AND b)", "a AND b", "b AND a")
	wantCanon(t, "(a OR b)", "a OR b", "b OR a")
	wantCanon(t, "((a + b) < (a * b))", "b + a < b * a")
	wantCanon(t, "((a - b) < (b - a))", "a - b < b - a")
	wantCanon(t, "((a / b) < (b / a))", "a / b < b / a")
	wantCanon(t, "((b AND c) AND a)", "c AND b AND a", "a AND (b AND c)")
	wantCanon(t, "((a OR b) OR c)", "c OR (b OR a)", "a OR b OR c")
	wantCanon(t, "(((a AND b) OR c) OR d)", "d OR (b AND a OR c)")
	wantCanon(t, "(((c - b) - a) < 1)", "c - b - a < 1")
	wantCanon(t, "(((c / b) / a) < 1)", "c / b / a < 1")
	wantCanon(t, "((10 + 9) < 1)", "9 + 10 < 1") // as texts, not as numbers
	wantCanon(t, "(A AND a)", "a AND A")
	wantCanon(t, "($ AND A)", "A AND $")
	wantCanon(t, "(_ AND a)", "a AND _")
	wantCanon(t, "(a AND a.)", "a. AND a")
	wantCanon(t, "(FALSE OR TRUE)", "TRUE OR FALSE")
	wantCanon(t, "(a AND a)", "a AND a")
	wantCanon(t, "(('\x7f' = a) OR ('\x80' = a))", "a = '\x80' OR a = '\x7f'")
}

// TestP5Great has long rows, whose canonical texts have more than 200 bytes.
func TestP5Great(t *testing.T) {
	want := strings.Repeat("(", 39) + "a" + strings.Repeat(" OR a)", 39)
	wantCanon(t, want, "a"+strings.Repeat(" OR a", 39))
	long := strings.Repeat("x", 90)
	wantCanon(t, "((1 <= "+long+") AND ("+long+" <= 2))", long+" BETWEEN 1 AND 2")
	wantCanon(t, "('' = a)", "a IN ("+strings.Repeat("'',", 63)+"'')")
	wantCanon(t, "("+strings.Repeat("(0 - ", 12)+"a"+strings.Repeat(")", 12)+" < 1)", strings.Repeat("-", 12)+"a < 1")
}

func TestP5Errors(t *testing.T) {
	for _, c := range []struct {
		selector string
		errno    api.Errno
		place    int
	}{
		{"", api.ErrSyntax, 0}, {"  ", api.ErrSyntax, 2}, {"a =", api.ErrSyntax, 3}, {"a = = 1", api.ErrSyntax, 4}, {"a b", api.ErrSyntax, 2}, {"a # b", api.ErrSyntax, 2}, {"a LIKE 'x!' ESCAPE '!'", api.ErrSyntax, 7},
		{strings.Repeat("x", 201), api.ErrLong, 0}, {strings.Repeat("(", 201), api.ErrLong, 0},
		{strings.Repeat("(", 13), api.ErrDeep, 12}, {"a AND " + strings.Repeat("NOT ", 13) + "b", api.ErrDeep, 54},
		{"a AND 1", api.ErrType, 2}, {"'x' < 1", api.ErrType, 4}, {"a + 1", api.ErrType, 0}, {"1", api.ErrType, 0}, {"1 = TRUE", api.ErrType, 2}, {"NOT 1 = 'x' AND b + 'y' < 2", api.ErrType, 6},
	} {
		if got, errno, place := sieve.Canon(c.selector); got != "" || errno != c.errno || place != c.place {
			t.Errorf("Canon(%q) = %q, %d, %d, want %d, %d", c.selector, got, errno, place, c.errno, c.place)
		}
	}
}
