package sieve_test

import (
	"math"
	"math/big"
	"testing"

	"sieve/api"
)

func TestP4Events(t *testing.T) {
	list := func(names ...string) []api.Property {
		var out []api.Property
		for _, name := range names {
			out = append(out, api.Property{Name: name})
		}
		return out
	}
	for _, event := range [][]api.Property{
		nil, {}, list("a", "A", "b", "c", "d", "e", "f", "g"), list("_"), list("$"), list("a.b.c."), list("Z_$.0123456789az"), list("notes", "ORs", "in.", "_null"),
	} {
		wantValue(t, "TRUE", event, yes)
	}
	for _, event := range [][]api.Property{
		list("a", "b", "c", "d", "e", "f", "g", "h", "i"), list("a", "a"), list("a", "b", "c", "a"), list("b", "a", "a"),
		list(""), list("a", ""), list("1"), list("1a"), list(".a"), list("a-b"), list(" a"), list("a "), list("a b"), list("'a'"), list("\xc3\xa9"), list("a\x00"), list("aaaaaaaaaaaaaaaaa"),
		list("AND"), list("or"), list("Not"), list("TRUE"), list("false"), list("Between"), list("in"), list("LIKE"), list("escape"), list("Is"), list("NULL"),
	} {
		wantError(t, "TRUE", event, api.ErrEvent, 0)
		wantError(t, "d", event, api.ErrEvent, 0)
	}
}

func TestP4EventValues(t *testing.T) {
	for _, v := range []api.Value{
		null, yes, no, num(0), num(-1), num(math.MinInt64), num(math.MaxInt64), text(""), text("12345678901234567890"), text("\x00\xff'\n"),
	} {
		wantValue(t, "b", []api.Property{{Name: "a"}, {Name: "b", Val: v}}, v)
	}
	for _, v := range []api.Value{
		{Kind: -1}, {Kind: 4}, {Kind: math.MaxInt}, {Num: 1}, {Str: "x"}, {Kind: api.Bool, Num: 2}, {Kind: api.Bool, Num: -1}, {Kind: api.Bool, Num: 1, Str: "x"}, {Kind: api.Int, Num: 5, Str: "x"}, {Kind: api.Text, Num: 1, Str: "x"}, {Kind: api.Text, Str: "123456789012345678901"},
	} {
		wantError(t, "TRUE", []api.Property{{Name: "a"}, {Name: "b", Val: v}}, api.ErrEvent, 0)
	}
}

func TestP4Names(t *testing.T) {
	event := []api.Property{{Name: "a", Val: num(1)}, {Name: "A", Val: num(2)}, {Name: "$x.y_0", Val: text("z")}, {Name: "n"}}
	for selector, want := range map[string]api.Value{
		"a": num(1), "A": num(2), "$x.y_0": text("z"), "n": null, "$x": null, "aa": null, "(a)": num(1), "aaaaaaaaaaaaaaaaaaaaaaaaa": null, "a.": null,
	} {
		wantValue(t, selector, event, want)
	}
}

func TestP4Examples(t *testing.T) {
	for selector, want := range map[string]api.Value{
		"a > 3 AND b = 'x'": yes, "a > 3 AND d = 1": null, "a > 9 AND d = 1": no, "NOT d = 1 OR c": yes, "a = 'x'": null, "b": text("x"), "a IN ('x')": null,
		"a BETWEEN 1 AND 5": yes, "a NOT BETWEEN 1 AND 5": no, "- a + 2 * 3 = 1": yes, "b IN ('y', 'x', 'y')": yes, "b LIKE '_'": yes, "b LIKE '%y%'": no, "a LIKE '%'": null, "b LIKE '!_' ESCAPE '!'": no,
		"d IS NULL": yes, "9223372036854775807 + a > 0": null, "a / 0 = 1": null, "-7 / 2 = -3": yes,
	} {
		wantValue(t, selector, example(), want)
	}
}

// pair is an event of two values, p and q, and of a third one to hold against.
func pair(p, q, r api.Value) []api.Property {
	return []api.Property{{Name: "p", Val: p}, {Name: "q", Val: q}, {Name: "r", Val: r}}
}

func ends() []int64 {
	return []int64{math.MinInt64, math.MinInt64 + 1, math.MinInt64 / 2, -3037000500, -3037000499, -7, -2, -1, 0, 1, 2, 7, 3037000499, 3037000500, math.MaxInt64/2 + 1, math.MaxInt64 - 1, math.MaxInt64}
}

func TestP4Numbers(t *testing.T) {
	for _, p := range ends() {
		for _, q := range ends() {
			a, b := big.NewInt(p), big.NewInt(q)
			results := map[string]*big.Int{
				"p + q": new(big.Int).Add(a, b), "p - q": new(big.Int).Sub(a, b), "p * q": new(big.Int).Mul(a, b), "-p": new(big.Int).Neg(a), "+p": a, "p - -q": nil, "p / q": nil,
			}
			if q != 0 {
				results["p / q"] = new(big.Int).Quo(a, b)
			}
			if q != math.MinInt64 {
				results["p - -q"] = new(big.Int).Add(a, b)
			}
			for term, want := range results {
				if want == nil || !want.IsInt64() {
					wantValue(t, term+" = r", pair(num(p), num(q), num(0)), null)
					wantValue(t, term+" >= r", pair(num(p), num(q), num(math.MinInt64)), null)
					continue
				}
				wantValue(t, term+" = r", pair(num(p), num(q), num(want.Int64())), yes)
				wantValue(t, term+" <> r", pair(num(p), num(q), num(want.Int64())), no)
			}
		}
	}
}

func TestP4WrittenNumbers(t *testing.T) {
	for selector, want := range map[string]api.Value{
		"9223372036854775807 + 0 > 0": yes, "9223372036854775807 + 1 > 0": null, "-9223372036854775807 - 1 < 0": yes, "-9223372036854775807 - 2 < 0": null, "-(-9223372036854775807 - 1) > 0": null,
		"(-9223372036854775807 - 1) / -1 > 0": null, "-1 * (-9223372036854775807 - 1) > 0": null, "(-9223372036854775807 - 1) * -1 > 0": null, "4294967296 * 4294967296 = 0": null,
		"7 / 2 = 3": yes, "-7 / 2 = -3": yes, "7 / -2 = -3": yes, "-7 / -2 = 3": yes, "0 / 7 = 0": yes, "0 / 0 = 0": null, "1 / 2 = 0": yes,
		"7 - 2 - 1 = 4": yes, "7 - (2 - 1) = 6": yes, "24 / 4 / 2 = 3": yes, "24 / 4 * 2 = 12": yes, "2 + 3 * 4 = 14": yes, "(2 + 3) * 4 = 20": yes, "-2 * 3 = 0 - 6": yes, "- - 2 = 2": yes, "-+-2 = 2": yes, "007 = 7": yes, "1 - - 1 = 2": yes, "1 + + 1 = 2": yes,
		"+b = 1": null, "-b = 1": null, "-c = 1": null, "+d = 1": null, "b + 1 = 1": null, "1 * d = 0": null, "0 * b = 0": null, "c / 1 = 1": null, "c + c = 2": null,
	} {
		wantValue(t, selector, example(), want)
	}
}

// TestP4Pairs holds all operators on two values of all kinds against what the
// document says of them, written anew.
func TestP4Pairs(t *testing.T) {
	values := []api.Value{null, yes, no, num(0), num(1), num(5), num(math.MinInt64), num(math.MaxInt64), text(""), text("x"), text("y")}
	truth := func(known, holds bool) api.Value {
		switch {
		case !known:
			return null
		case holds:
			return yes
		}
		return no
	}
	for _, p := range values {
		for _, q := range values {
			event := pair(p, q, null)
			alike := p.Kind == q.Kind && p.Kind != api.Null
			ints := p.Kind == api.Int && q.Kind == api.Int
			wantValue(t, "p = q", event, truth(alike, p == q))
			wantValue(t, "p <> q", event, truth(alike, p != q))
			wantValue(t, "NOT p = q", event, truth(alike, p != q))
			wantValue(t, "p < q", event, truth(ints, p.Num < q.Num))
			wantValue(t, "p <= q", event, truth(ints, p.Num <= q.Num))
			wantValue(t, "p > q", event, truth(ints, p.Num > q.Num))
			wantValue(t, "p >= q", event, truth(ints, p.Num >= q.Num))
			wantValue(t, "p AND q", event, truth(p == no || q == no || p == yes && q == yes, p == yes && q == yes))
			wantValue(t, "p OR q", event, truth(p == yes || q == yes || p == no && q == no, p == yes || q == yes))
			below := truth(p.Kind == api.Int, p.Num >= 0)
			above := truth(ints, p.Num <= q.Num)
			inside := truth(below == no || above == no || below == yes && above == yes, below == yes && above == yes)
			wantValue(t, "p BETWEEN 0 AND q", event, inside)
			wantValue(t, "p NOT BETWEEN 0 AND q", event, truth(inside != null, inside == no))
		}
		event := pair(p, null, null)
		isText := p.Kind == api.Text
		wantValue(t, "p", event, p)
		wantValue(t, "NOT p", event, truth(p.Kind == api.Bool, p == no))
		wantValue(t, "p IS NULL", event, truth(true, p == null))
		wantValue(t, "p IS NOT NULL", event, truth(true, p != null))
		wantValue(t, "p IN ('x')", event, truth(isText, p.Str == "x"))
		wantValue(t, "p IN ('', 'z', 'x')", event, truth(isText, p.Str != "y"))
		wantValue(t, "p NOT IN ('x', 'x')", event, truth(isText, p.Str != "x"))
		wantValue(t, "p LIKE '%'", event, truth(isText, true))
		wantValue(t, "p LIKE '_'", event, truth(isText, p.Str != ""))
		wantValue(t, "p NOT LIKE 'x'", event, truth(isText, p.Str != "x"))
		wantValue(t, "p NOT LIKE '!x' ESCAPE '!'", event, truth(isText, p.Str != "x"))
	}
}

func TestP4Like(t *testing.T) {
	for _, c := range []struct {
		pattern, text string
		want          api.Value
	}{
		{"'%'", "", yes}, {"''", "", yes}, {"'_'", "", no}, {"'%x%'", "axb", yes}, {"'a%b%c'", "abbc", yes}, {"'a%b%c'", "acb", no}, {"'_%_'", "a", no}, {"'_%_'", "ab", yes}, {"'a'", "ab", no}, {"'b'", "ab", no}, {"'A'", "a", no}, {"'it''s'", "it's", yes},
		{"'__'", "\xc3\xa9", yes}, {"'_'", "\xff", yes}, {"'%\n%'", "a\nb", yes},
		{"'!%' ESCAPE '!'", "%", yes}, {"'!%' ESCAPE '!'", "x", no}, {"'!!' ESCAPE '!'", "!", yes}, {"'!x' ESCAPE '!'", "x", yes}, {"'%!_%' ESCAPE '!'", "a_b", yes}, {"'%!_%' ESCAPE '!'", "ab", no}, {"'!'", "!", yes}, {"'!%'", "!abc", yes},
		{"'%%' ESCAPE '%'", "%", yes}, {"'%%' ESCAPE '%'", "x", no}, {"'%x_' ESCAPE '%'", "xy", yes}, {"'__' ESCAPE '_'", "_", yes}, {"'__' ESCAPE '_'", "x", no}, {"'_x%' ESCAPE '_'", "xyz", yes}, {"'xx' ESCAPE 'x'", "x", yes}, {"'xx' ESCAPE 'x'", "xx", no}, {"'''%' ESCAPE ''''", "%", yes},
	} {
		wantValue(t, "t LIKE "+c.pattern, []api.Property{{Name: "t", Val: text(c.text)}}, c.want)
	}
}

func TestP4Rows(t *testing.T) {
	for selector, want := range map[string]api.Value{
		"TRUE OR FALSE AND FALSE": yes, "(TRUE OR FALSE) AND FALSE": no, "NOT FALSE AND FALSE": no, "NOT (FALSE AND FALSE)": yes, "NOT FALSE OR TRUE": yes, "NOT a = 5 OR c": yes, "NOT NOT NOT c": no,
		"FALSE OR d OR c": yes, "c AND d AND FALSE": no, "d OR FALSE OR FALSE": null, "(a = 5) = c": yes, "c = (a = 5)": yes, "c <> (d = 1)": null, "a BETWEEN 1 AND 9 AND c": yes, "a BETWEEN 1 AND 9 AND FALSE": no, "NOT a BETWEEN 6 AND 9": yes, "NOT b IN ('x') OR d IS NULL": yes, "NOT d IS NOT NULL": yes, "a + 1 BETWEEN 2 * 3 AND 6": yes,
		"a BETWEEN d AND 4": no, "a BETWEEN 6 AND d": no, "a BETWEEN d AND 5": null, "a BETWEEN 5 AND 1": no, "'it''s' = 'it''s'": yes, "'a' = 'A'": no, "'' = ''''": no, "(b) = 'x'": yes,
	} {
		wantValue(t, selector, example(), want)
	}
}
