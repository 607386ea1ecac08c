package sieve_test

import (
	"strings"
	"testing"

	"sieve/api"
)

func TestP3Long(t *testing.T) {
	wantValue(t, strings.Repeat(" ", 199)+"c", example(), yes)
	wantValue(t, "b = '"+strings.Repeat("x", 194)+"'", example(), no)
	wantError(t, "b = '"+strings.Repeat("x", 195)+"'", example(), api.ErrLong, 0)
	wantError(t, strings.Repeat(" ", 200)+"c", example(), api.ErrLong, 0)
	wantError(t, strings.Repeat("c", 201), example(), api.ErrLong, 0)
	wantValue(t, strings.Repeat("c", 200), example(), null)
}

func TestP3Syntax(t *testing.T) {
	for _, c := range []struct {
		selector string
		at       int
	}{
		{"", 0}, {" \t\n ", 4}, {"a =", 3}, {"a =  ", 5}, {"a = = 1", 4}, {"a b", 2}, {"(a", 2}, {"(a) )", 4}, {"()", 1}, {"* a", 0}, {"a + * b < 1", 4},
		{"OR", 0}, {"a OR", 4}, {"a OR AND b", 5}, {"NOT", 3}, {"a = NOT b", 4}, {"a + NOT b", 4}, {"- NOT a", 2},
		{"a < b < c", 6}, {"a = b BETWEEN 1 AND 2", 6}, {"a = b IS NULL", 6}, {"a BETWEEN 1 AND 2 BETWEEN 3 AND 4", 18}, {"a BETWEEN 1, 2", 11}, {"a BETWEEN 1 AND 2 AND", 21}, {"a BETWEEN b = c AND d", 12}, {"a BETWEEN NOT b AND c", 10},
		{"1 IN ('x')", 2}, {"(a) IN ('x')", 4}, {"+a IN ('x')", 3}, {"a * b IN ('x')", 6}, {"'x' IN ('x')", 4}, {"TRUE IN ('x')", 5}, {"a IN ('x', b)", 11}, {"a IN ('x', )", 11}, {"a IN (('x'))", 6}, {"a IN ('x') IN ('x')", 11}, {"a IN ('x'", 9}, {"a IN ('x',", 10},
		{"'x' LIKE 'x'", 4}, {"(a) NOT LIKE 'x'", 8}, {"a LIKE ('x')", 7}, {"a LIKE 1", 7}, {"a LIKE 'x' 'y'", 11}, {"1 IS NULL", 2}, {"a NOT IS NULL", 6}, {"a IS TRUE", 5}, {"a IS NULL NULL", 10}, {"a IS NOT 1", 9}, {"a NOT", 5}, {"a NOT < 1", 6}, {"1 NOT IN ('x')", 6}, {"NOT NOT", 7},
		{"null", 0}, {"escape", 0}, {"a = null", 4}, {"a = escape", 4}, {"is = 1", 0},
	} {
		wantError(t, c.selector, example(), api.ErrSyntax, c.at)
	}
}

// TestP3Token: what begins no token, ends too late or is worth too much.
func TestP3Token(t *testing.T) {
	for _, c := range []struct {
		selector string
		at       int
	}{
		{"#", 0}, {"a # b", 2}, {"a! = 1", 1}, {"a = 1.5", 5}, {"a = .5", 4}, {".a", 0}, {"a \r= 1", 2}, {"a\v= 1", 1}, {"a = \"x\"", 4}, {"a & b", 2}, {"\x00", 0}, {"caf\xc3\xa9 = 1", 3}, {"a != 1", 2}, {"a >> 1", 3}, {"a > = 1", 4}, {"a < = 1", 4}, {"a < > 1", 4}, {"a =< 1", 3}, {"a => 1", 3}, {"1a", 1}, {"a = 1b", 5},
		{"a = '", 4}, {"a = 'x", 4}, {"a = 'x''", 4}, {"a = '''", 4}, {"a 'x", 2}, {"a LIKE 'x' ESCAPE '!", 18}, {"a IN ('x', 'y)", 11},
		{"9223372036854775808 = a", 0}, {"a < 9223372036854775808", 4}, {"a < -9223372036854775808", 5}, {"a < 0009223372036854775808", 4}, {"a < 18446744073709551617", 4},
	} {
		wantError(t, c.selector, example(), api.ErrSyntax, c.at)
	}
	wantValue(t, "a < 0009223372036854775807", example(), yes)
	wantValue(t, "a<=5aNd b='x'OR c", example(), yes)
}

func TestP3Escape(t *testing.T) {
	for _, c := range []struct {
		selector string
		at       int
	}{
		{"b LIKE 'x' ESCAPE ''", 18}, {"b LIKE 'x' ESCAPE '!!'", 18}, {"b LIKE 'x' ESCAPE '\xc3\xa9'", 18}, {"b LIKE 'x' ESCAPE", 17}, {"b LIKE 'x' ESCAPE 1", 18}, {"b LIKE 'x' ESCAPE '!' ESCAPE '!'", 22},
		{"b LIKE 'x!' ESCAPE '!'", 7}, {"b LIKE '!' ESCAPE '!'", 7}, {"b LIKE '!!!' ESCAPE '!'", 7}, {"b LIKE 'x!!!' ESCAPE '!'", 7}, {"b LIKE 'x''' ESCAPE ''''", 7}, {"b LIKE '%' ESCAPE '%'", 7}, {"b NOT LIKE 'x!' ESCAPE '!'", 11},
		// What is known first, as one reads on, is told.
		{"b LIKE 'x!' ESCAPE '!' #", 7}, {"b LIKE 'x!' ESCAPE '!!'", 19}, {"b LIKE 'x!' ESCAPE #", 19}, {"b LIKE 'x!' ESCAPE", 18}, {"# b LIKE 'x!' ESCAPE '!'", 0},
	} {
		wantError(t, c.selector, example(), api.ErrSyntax, c.at)
	}
	wantValue(t, "b LIKE 'x!'", example(), no)
	wantValue(t, "b LIKE '!!' ESCAPE '!'", example(), no)
	wantValue(t, "b LIKE '!!!x' ESCAPE '!'", example(), no)
	wantValue(t, "b LIKE '' ESCAPE '!'", example(), no)
	wantValue(t, "b LIKE '''x' ESCAPE ''''", example(), yes)
	wantError(t, strings.Repeat("(", 12)+"b LIKE 'x!' ESCAPE '!' AND (", example(), api.ErrSyntax, 19)
}

func TestP3Deep(t *testing.T) {
	open, shut := strings.Repeat("(", 12), strings.Repeat(")", 12)
	nots, signs := strings.Repeat("NOT ", 12), strings.Repeat("-+", 6)
	for _, c := range []struct {
		selector string
		at       int
	}{
		{"(" + open, 12}, {"(" + open + "c" + shut + ")", 12}, {open + "NOT c" + shut, 12}, {open + "-a" + shut + " < 1", 12}, {open + "+a" + shut + " < 1", 12},
		{nots + "NOT c", 48}, {nots + "(c)", 48}, {nots + "a < -1", 52}, {nots + "+a < 1", 48}, {nots + "a BETWEEN 1 AND (2)", 64},
		{signs + "-a < 1", 12}, {signs + "(a) < 1", 12}, {"a < " + signs + "+a", 16},
		{strings.Repeat("NOT (", 6) + "-1 < 2", 30}, {open + "1 < -a", 16}, {open + "c AND (", 18}, {open + "c" + shut + " AND (" + open, 42}, {open + "( #", 12},
	} {
		wantError(t, c.selector, example(), api.ErrDeep, c.at)
	}
	for _, selector := range []string{
		open + "c" + shut, nots + "c", "a = " + signs + "a", open + "b IN ('x')" + shut, open + "c" + shut + " AND (c)", nots + "c AND (NOT NOT c)",
		"0 - a = " + signs + "a * (" + signs[1:] + "a) / " + signs + "a", open + "a NOT BETWEEN 7 AND 9" + shut, open + "d IS NULL AND b NOT IN ('y')" + shut, open + "a - 1 = 4" + shut,
		nots + "a NOT BETWEEN 7 AND 9", strings.Repeat("(", 11) + "NOT c OR NOT NULL.x OR c" + strings.Repeat(")", 11), strings.Repeat("(", 11) + "-a < -4" + strings.Repeat(")", 11),
	} {
		wantValue(t, selector, example(), yes)
	}
	// A token that no selector can go on with is told, be it a NOT, a ( or a sign.
	wantError(t, open+"c (", example(), api.ErrSyntax, 14)
	wantError(t, open+"c NOT (", example(), api.ErrSyntax, 18)
	wantError(t, open+"a = NOT c", example(), api.ErrSyntax, 16)
	wantError(t, open+"c", example(), api.ErrSyntax, 13)
}

func TestP3Type(t *testing.T) {
	for _, c := range []struct {
		selector string
		at       int
	}{
		{"1", 0}, {"  1", 0}, {"'x'", 0}, {"a + 1", 0}, {"  (a * 1)", 0}, {"-a", 0}, {"+ (a)", 0}, {"((1))", 0},
		{"NOT 1", 0}, {" NOT 'x'", 1}, {"NOT (a - 1)", 0}, {"NOT NOT -a", 4},
		{"a AND 1", 2}, {"1 AND a", 2}, {"c AND c AND 'x'", 8}, {"'x' OR c", 4}, {"c OR c OR 1", 7}, {"a OR 1 AND c", 7},
		{"a < 'x'", 2}, {"'x' <= a", 4}, {"TRUE > a", 5}, {"a >= (c AND c)", 2}, {"(a = 1) < 2", 8},
		{"a + 'x' < 1", 2}, {"TRUE - 1 < 1", 5}, {"a * 'x' < 1", 2}, {"a / (c IS NULL) < 1", 2}, {"1 + 2 + 'x' < 3", 6}, {"-'x' < 1", 0}, {"a = +TRUE", 4}, {"a = - - (NOT c)", 6},
		{"1 = 'x'", 2}, {"1 = TRUE", 2}, {"'x' = TRUE", 4}, {"1 <> (a = 1)", 2}, {"-a = b + 1 AND 'x' <> -a", 19},
		{"'x' BETWEEN 1 AND 2", 4}, {"a BETWEEN TRUE AND 2", 2}, {"a BETWEEN 1 AND 'x'", 2}, {"a NOT BETWEEN 1 AND 'x'", 6}, {"(a BETWEEN 1 AND 2) BETWEEN 1 AND 2", 20},
		// Inner terms first, the left ones of them first.
		{"NOT 1 = 'x' AND b + 'y' < 2", 6}, {"1 AND (2 OR 3)", 9}, {"(1 OR 2) AND (3 OR 4)", 3}, {"1 AND (2 < 'x')", 9}, {"'x' BETWEEN 1 AND -TRUE", 18}, {"'x' BETWEEN -'y' AND -TRUE", 12}, {"'x' < 1 OR 1 < 'y'", 4}, {"-'x' + -'y' < TRUE", 0}, {"'x' + 1 + -'y' < 1", 4},
	} {
		wantError(t, c.selector, example(), api.ErrType, c.at)
	}
	for _, selector := range []string{"a = d", "d = (d < 1)", "TRUE = (d < 1)", "d < d", "'x' = (d)", "(d) + 1 <> 2", "NOT d", "d OR d", "(d)", "d BETWEEN d AND d", "NOT (d = 1) = TRUE"} {
		wantValue(t, selector, example(), null)
	}
}
