package sieve_test

import (
	"math/rand"
	"slices"
	"strings"
	"testing"

	"sieve/api"
	"sieve/sieve"
)

func wantMet(t *testing.T, event []api.Property, want []int, selectors ...string) {
	t.Helper()
	if got, errno := sieve.Run(compiled(t, selectors...), event); !slices.Equal(got, want) || errno != api.OK {
		t.Errorf("Run(Compile(%.300q), %v) = %v, %d, want %v", selectors, event, got, errno, want)
	}
}

func TestP7Numbers(t *testing.T) {
	wantMet(t, example(), nil)
	wantMet(t, nil, nil)
	wantMet(t, example(), []int{0}, "a > 3")
	wantMet(t, example(), nil, "a > 5")
	wantMet(t, example(), []int{0, 1, 2, 3, 4, 5, 6, 7}, times(8, "c")...)
	wantMet(t, example(), []int{7}, append(times(7, "d"), "c")...)
	wantMet(t, example(), []int{0, 2, 6, 7}, "a > 3", "a > 5", "c", "b", "d", "NOT d", "a > 3", "TRUE")
	wantMet(t, example(), []int{1, 3}, "FALSE", "b = 'x'", "NOT b = 'x'", "a = 5 AND c", "a", "NOT NOT a")
}

// TestP7True asks for what is true: a number, a text and Null are no more true than false is.
func TestP7True(t *testing.T) {
	for _, v := range []api.Value{null, no, num(1), num(0), text(""), text("true")} {
		wantMet(t, []api.Property{{Name: "v", Val: v}}, nil, "v", "(v)", "v AND TRUE", "v OR FALSE", "NOT NOT v")
	}
	wantMet(t, []api.Property{{Name: "v", Val: yes}}, []int{0, 1, 2, 3, 4}, "v", "(v)", "v AND TRUE", "v OR FALSE", "NOT NOT v")
}

// TestP7Null tells Null from false: NOT makes true of false alone.
func TestP7Null(t *testing.T) {
	tests := []string{"v", "v = TRUE", "v <> FALSE", "v AND TRUE", "v OR FALSE"}
	var denied []string
	for _, test := range tests {
		denied = append(denied, "NOT ("+test+")")
	}
	for _, v := range []api.Value{null, num(0), text("")} {
		event := []api.Property{{Name: "v", Val: v}}
		wantMet(t, event, nil, tests...)
		wantMet(t, event, nil, denied...)
	}
	wantMet(t, []api.Property{{Name: "v", Val: yes}}, []int{0, 1, 2, 3, 4}, tests...)
	wantMet(t, []api.Property{{Name: "v", Val: no}}, []int{0, 1, 2, 3, 4}, denied...)
	wantMet(t, example(), nil, "d = 1", "NOT d = 1", "d < 1", "NOT d < 1", "d IN ('x')", "d NOT IN ('x')", "d LIKE '%'", "d NOT LIKE '%'")
	wantMet(t, example(), nil, "b < 1", "NOT b < 1", "a BETWEEN d AND 9", "a NOT BETWEEN d AND 9", "a LIKE '%'", "a NOT LIKE '%'", "a = 'x'", "a <> 'x'")
	wantMet(t, example(), []int{0, 2, 5}, "a NOT BETWEEN d AND 4", "a BETWEEN d AND 4", "NOT (d AND FALSE)", "NOT (d OR FALSE)", "NOT (d OR TRUE)", "d IS NULL", "d IS NOT NULL")
}

func TestP7Operators(t *testing.T) {
	wantMet(t, example(), []int{0, 1, 2, 3}, "a - 5 = 0", "5 - a = 0", "a / 5 = 1", "5 / a = 1", "a - 4 = 0", "4 - a = 0", "a / 4 = 4", "4 / a = 1")
	wantMet(t, example(), []int{0, 2, 5}, "4 < a", "a < 4", "a - 9 < 0", "9 - a < 0", "12 / a < 2", "a / 12 < 1", "a < 5")
	wantMet(t, example(), []int{0, 1, 4, 6}, "a <= 5", "5 <= a", "a < 5", "5 < a", "a * a = 25", "a * 2 = a", "a + a = 10", "a + 5 = a")
	wantMet(t, example(), []int{0, 1, 2}, "-7 / 2 = -3", "- -a = +a", "9223372036854775807 = a + 9223372036854775802", "a + 9223372036854775803 > 0", "a / 0 = 1", "a / 0 <> 1")
	wantMet(t, example(), []int{0, 2, 4, 5, 7}, "b LIKE '_'", "b LIKE '%y%'", "b LIKE '%'", "b LIKE '!_' ESCAPE '!'", "b LIKE '!x' ESCAPE '!'", "b LIKE 'xx' ESCAPE 'x'", "b LIKE 'xx'", "b NOT LIKE 'xx'")
	wantMet(t, example(), []int{0, 3, 4}, "b IN ('y', 'x', 'y')", "b IN ('y', '')", "b NOT IN ('x')", "b NOT IN ('y', '')", "b = 'x'", "b <> 'x'", "b = 'X'")
	wantMet(t, []api.Property{{Name: "q", Val: text("it's")}}, []int{0, 2, 3}, "q = 'it''s'", "q = 'its'", "q LIKE 'it''s'", "q LIKE '%''''s' ESCAPE ''''")
}

// TestP7Wide has places and lengths that need all of a byte.
func TestP7Wide(t *testing.T) {
	name := strings.Repeat("n", 170)
	wantMet(t, example(), []int{0, 1}, name+" IS NULL", "'"+name+"' = '"+name[:10]+"' OR c", "b LIKE '"+name+"'")
	wantMet(t, example(), []int{0, 1}, "b LIKE '"+strings.Repeat("%", 190)+"'", "b LIKE '"+strings.Repeat("%", 170)+"' ESCAPE '!'")
	event := []api.Property{{Name: "n27", Val: yes}, {Name: "x", Val: no}}
	wantMet(t, event, []int{0, 2, 3, 7}, joined(0, 28), "x", "n27 OR x", "NOT x", "n25 OR x", "n26", "n27 AND n26", "n27 AND TRUE")
	wantMet(t, []api.Property{{Name: "n27", Val: no}}, nil, joined(0, 28), "NOT ("+joined(0, 10)+")")
}

func TestP7NoEvent(t *testing.T) {
	code := compiled(t, "TRUE")
	for _, event := range [][]api.Property{badEvent(), {{Name: "a"}, {Name: "a"}}, {{Name: "a", Val: api.Value{Kind: 4}}}, {{Name: "and"}}, make([]api.Property, 9)} {
		for _, code := range [][]byte{code, nil, {}, {1}, code[:1], make([]byte, 1000)} {
			if got, errno := sieve.Run(code, event); len(got) != 0 || errno != api.ErrEvent {
				t.Errorf("Run(%v, %v) = %v, %d", code, event, got, errno)
			}
		}
	}
}

// TestP7Events runs one program over many events.
func TestP7Events(t *testing.T) {
	code := compiled(t, "a > 3", "a > 3 AND b = 'x'", "b = 'x' OR c", "NOT c", "a + 1 = 6")
	for _, c := range []struct {
		event []api.Property
		want  []int
	}{
		{example(), []int{0, 1, 2, 4}}, {nil, nil}, {[]api.Property{{Name: "c", Val: no}}, []int{3}}, {[]api.Property{{Name: "b", Val: text("x")}, {Name: "a", Val: num(4)}}, []int{0, 1, 2}}, {example()[2:], []int{2}}, {example()[:1], []int{0, 4}}, {example(), []int{0, 1, 2, 4}},
	} {
		if got, errno := sieve.Run(code, c.event); !slices.Equal(got, c.want) || errno != api.OK {
			t.Errorf("Run of %v = %v, %d, want %v", c.event, got, errno, c.want)
		}
	}
}

// checkAny looks at what an answer of any bytes must keep to.
func checkAny(t *testing.T, code []byte, event []api.Property) {
	got, errno := sieve.Run(code, event)
	ok := errno == api.OK || errno == api.ErrCode && len(got) == 0
	for i, n := range got {
		ok = ok && n >= 0 && n <= 7 && (i == 0 || n > got[i-1])
	}
	if !ok {
		t.Fatalf("Run(%v) = %v, %d", code, got, errno)
	}
}

// everyOperator is a program with terms of every kind.
func everyOperator(t *testing.T) []byte {
	return compiled(t, "a > 3 AND b LIKE '%x' ESCAPE '!' OR b LIKE 'y'", "a + 1 >= b - 2 * c / 3", "NOT c OR TRUE = FALSE", "b IN ('x', 'y''')", "d IS NULL")
}

func TestP7ShortBytes(t *testing.T) {
	checkAny(t, nil, example())
	for a := range 256 {
		checkAny(t, []byte{byte(a)}, example())
		for b := range 256 {
			checkAny(t, []byte{byte(a), byte(b)}, example())
			for c := range 26 {
				checkAny(t, []byte{1, byte(c), byte(a), byte(b)}, example())
				checkAny(t, []byte{1, 1, byte(c), byte(a), byte(b)}, example())
				checkAny(t, []byte{2, 8, 3, byte(c), byte(a), byte(b), 1, 1, 1, 1, 1, 1, 1, 1}, example())
			}
		}
	}
}

// TestP7Spoilt puts every byte at every place of a program, and cuts it off at each.
func TestP7Spoilt(t *testing.T) {
	good := everyOperator(t)
	for at := range good {
		checkAny(t, good[:at], example())
		checkAny(t, good[at:], example())
		checkAny(t, slices.Delete(slices.Clone(good), at, at+1), example())
		for b := range 256 {
			bad := slices.Clone(good)
			bad[at] = byte(b)
			checkAny(t, bad, example())
			checkAny(t, slices.Insert(slices.Clone(good), at, byte(b)), example())
		}
	}
}

func TestP7SomeBytes(t *testing.T) {
	r := rand.New(rand.NewSource(7))
	good := everyOperator(t)
	for range 100000 {
		code := slices.Clone(good)
		if r.Intn(3) == 0 {
			code = make([]byte, r.Intn(60))
			for i := range code {
				code[i] = byte(r.Intn(28))
			}
		}
		for range r.Intn(5) {
			if len(code) > 0 {
				code[r.Intn(len(code))] = byte(r.Intn([]int{4, 32, 256}[r.Intn(3)]))
			}
		}
		checkAny(t, code, madeEvent())
	}
}

// TestP7GreatBytes has rows that no reader should follow to their end.
func TestP7GreatBytes(t *testing.T) {
	for b := range 256 {
		checkAny(t, slices.Repeat([]byte{byte(b)}, 1<<16), example())
		checkAny(t, append([]byte{80, 8}, slices.Repeat([]byte{byte(b)}, 1<<16)...), example())
		checkAny(t, append([]byte{255, 255}, slices.Repeat([]byte{byte(b)}, 1<<16)...), example())
	}
	checkAny(t, append(everyOperator(t), make([]byte, 1<<24)...), example())
}
