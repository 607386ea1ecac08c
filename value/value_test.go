package value

import (
	"math"
	"math/big"
	"testing"

	"sieve/api"
)

var (
	none = api.Value{}
	yes  = api.Value{Kind: api.Bool, Num: 1}
	no   = api.Value{Kind: api.Bool}
)

func TestLogic(t *testing.T) {
	for _, c := range []struct{ x, y, and, or api.Value }{
		{yes, yes, yes, yes}, {yes, no, no, yes}, {yes, none, none, yes},
		{no, yes, no, yes}, {no, no, no, no}, {no, none, no, none},
		{none, yes, none, yes}, {none, no, no, none}, {none, none, none, none},
		{Int(1), yes, none, yes}, {Int(0), no, no, none}, {yes, Text(""), none, yes}, {no, Text("x"), no, none}, {Int(1), Text("x"), none, none},
	} {
		if got := And(c.x, c.y); got != c.and {
			t.Errorf("%v AND %v = %v", c.x, c.y, got)
		}
		if got := Or(c.x, c.y); got != c.or {
			t.Errorf("%v OR %v = %v", c.x, c.y, got)
		}
	}
	for _, c := range []struct{ x, not, isNull api.Value }{
		{yes, no, no}, {no, yes, no}, {none, none, yes}, {Int(0), none, no}, {Int(1), none, no}, {Text(""), none, no},
	} {
		if got := Not(c.x); got != c.not {
			t.Errorf("NOT %v = %v", c.x, got)
		}
		if got := IsNull(c.x); got != c.isNull {
			t.Errorf("%v IS NULL = %v", c.x, got)
		}
	}
}

func TestCompare(t *testing.T) {
	for _, c := range []struct{ x, y, equal, less, lessEqual api.Value }{
		{Int(1), Int(1), yes, no, yes}, {Int(1), Int(2), no, yes, yes}, {Int(2), Int(1), no, no, no}, {Int(math.MinInt64), Int(math.MaxInt64), no, yes, yes}, {Int(math.MaxInt64), Int(math.MinInt64), no, no, no},
		{Text("a"), Text("a"), yes, none, none}, {Text("a"), Text("b"), no, none, none}, {Text(""), Text(""), yes, none, none}, {Text("a"), Text("A"), no, none, none},
		{yes, yes, yes, none, none}, {yes, no, no, none, none}, {no, no, yes, none, none},
		{none, none, none, none, none}, {none, Int(0), none, none, none}, {Int(0), none, none, none, none}, {no, Int(0), none, none, none}, {Int(1), yes, none, none, none}, {Text(""), none, none, none, none}, {Text("1"), Int(1), none, none, none},
	} {
		if got := Equal(c.x, c.y); got != c.equal {
			t.Errorf("%v = %v: %v", c.x, c.y, got)
		}
		if got := Less(c.x, c.y); got != c.less {
			t.Errorf("%v < %v: %v", c.x, c.y, got)
		}
		if got := LessEqual(c.x, c.y); got != c.lessEqual {
			t.Errorf("%v <= %v: %v", c.x, c.y, got)
		}
	}
}

func TestLike(t *testing.T) {
	for _, c := range []struct {
		x           api.Value
		fit, escape string
		want        api.Value
	}{
		{Text("ab"), "a%", "", yes}, {Text("ab"), "a", "", no}, {Text("a%"), "a!%", "!", yes}, {Text("ab"), "a!%", "!", no}, {Text(""), "", "", yes},
		{none, "%", "", none}, {Int(1), "%", "", none}, {yes, "%", "", none}, {no, "", "!", none},
	} {
		if got := Like(c.x, c.fit, c.escape); got != c.want {
			t.Errorf("%v LIKE %q ESCAPE %q = %v, want %v", c.x, c.fit, c.escape, got, c.want)
		}
	}
}

func exact(n *big.Int) api.Value {
	if !n.IsInt64() {
		return none
	}
	return Int(n.Int64())
}

func TestNumbers(t *testing.T) {
	ends := []int64{math.MinInt64, math.MinInt64 + 1, math.MinInt64 + 2, math.MinInt64 / 2, math.MinInt64/2 - 1, -3037000500, -3037000499, -1 << 32, -7, -2, -1, 0, 1, 2, 7, 1 << 31, 1 << 32, 3037000499, 3037000500, math.MaxInt64 / 2, math.MaxInt64/2 + 1, math.MaxInt64 - 1, math.MaxInt64}
	for _, x := range ends {
		for _, y := range ends {
			a, b := big.NewInt(x), big.NewInt(y)
			quotient := none
			if y != 0 {
				quotient = exact(new(big.Int).Quo(a, b))
			}
			for _, c := range []struct {
				name      string
				got, want api.Value
			}{
				{"+", Add(Int(x), Int(y)), exact(new(big.Int).Add(a, b))},
				{"-", Subtract(Int(x), Int(y)), exact(new(big.Int).Sub(a, b))},
				{"*", Multiply(Int(x), Int(y)), exact(new(big.Int).Mul(a, b))},
				{"/", Divide(Int(x), Int(y)), quotient},
			} {
				if c.got != c.want {
					t.Errorf("%d %s %d = %v, want %v", x, c.name, y, c.got, c.want)
				}
			}
		}
	}
}

func TestNoNumbers(t *testing.T) {
	for _, other := range []api.Value{none, yes, no, Text(""), Text("1")} {
		for _, f := range []func(x, y api.Value) api.Value{Add, Subtract, Multiply, Divide} {
			for _, got := range []api.Value{f(other, Int(1)), f(Int(1), other), f(other, other)} {
				if got != none {
					t.Errorf("with %v: %v", other, got)
				}
			}
		}
	}
}
