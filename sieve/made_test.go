package sieve_test

import (
	"math/big"
	"math/rand"
	"regexp"
	"strings"
	"testing"

	"sieve/api"
	"sieve/sieve"
)

// maker writes a selector of its own choice and works out along the way, apart
// from the program, which error it has, or else what it is of an event.
type maker struct {
	r     *rand.Rand
	event []api.Property
	text  string
	deep  int // the place of the first token with which too many are open, or -1
	wrong int // the place of the first term with an operand of a wrong class, or -1
	nest  int // of a hundred, how often it opens something
}

type made struct {
	class string
	val   api.Value
}

func (m *maker) put(token string) int {
	place := len(m.text)
	m.text += token + []string{" ", " ", " ", "\t", "\n", "  "}[m.r.Intn(6)]
	return place
}

// chance says no behind the length of a selector, so that the text ends.
func (m *maker) chance(percent int) bool {
	return len(m.text) <= 200 && m.r.Intn(100) < percent
}

func (m *maker) pick(tokens ...string) string { return tokens[m.r.Intn(len(tokens))] }

// opens puts a token with which one more is open than before.
func (m *maker) opens(token string, open int) int {
	place := m.put(token)
	if open+1 > 12 && m.deep < 0 {
		m.deep = place
	}
	return place
}

func (m *maker) judge(place int, fits bool) {
	if !fits && m.wrong < 0 {
		m.wrong = place
	}
}

func are(class string, terms ...made) bool {
	for _, x := range terms {
		if x.class != class && x.class != "any" {
			return false
		}
	}
	return true
}

func (m *maker) either(open int, wish string) made {
	left := m.both(open, wish)
	for wish == "bool" && m.chance(20) {
		place := m.put(m.pick("OR", "or"))
		right := m.both(open, wish)
		m.judge(place, are("bool", left, right))
		left = made{"bool", someTrue(left.val, right.val)}
	}
	return left
}

func (m *maker) both(open int, wish string) made {
	left := m.denied(open, wish)
	for wish == "bool" && m.chance(20) {
		place := m.put(m.pick("AND", "And"))
		right := m.denied(open, wish)
		m.judge(place, are("bool", left, right))
		left = made{"bool", turned(someTrue(turned(left.val), turned(right.val)))}
	}
	return left
}

func (m *maker) denied(open int, wish string) made {
	if wish != "bool" || !m.chance(m.nest) {
		return m.test(open, wish)
	}
	place := m.opens(m.pick("NOT", "not"), open)
	inner := m.denied(open+1, wish)
	m.judge(place, are("bool", inner))
	return made{"bool", turned(inner.val)}
}

func (m *maker) test(open int, wish string) made {
	if wish != "bool" {
		return m.sum(open, wish)
	}
	switch m.r.Intn(7) {
	case 0:
		return m.equation(open)
	case 1:
		return m.order(open)
	case 2:
		return m.between(open)
	case 3:
		return m.among()
	case 4:
		return m.like()
	case 5:
		return m.isNull()
	}
	return m.sum(open, wish)
}

func (m *maker) equation(open int) made {
	wish := m.pick("number", "text", "bool")
	left := m.sum(open, wish)
	token := m.pick("=", "<>")
	place := m.put(token)
	right := m.sum(open, wish)
	m.judge(place, left.class == "any" || are(left.class, right))
	val := null
	if left.val.Kind == right.val.Kind && left.val.Kind != api.Null {
		val = truth((left.val == right.val) == (token == "="))
	}
	return made{"bool", val}
}

func (m *maker) order(open int) made {
	left := m.sum(open, "number")
	token := m.pick("<", "<=", ">", ">=")
	place := m.put(token)
	right := m.sum(open, "number")
	m.judge(place, are("number", left, right))
	return made{"bool", ordered(left.val, token, right.val)}
}

func (m *maker) between(open int) made {
	x := m.sum(open, "number")
	not := m.not()
	place := m.put("BETWEEN")
	low := m.sum(open, "number")
	m.put("AND")
	high := m.sum(open, "number")
	m.judge(place, are("number", x, low, high))
	outside := someTrue(ordered(x.val, "<", low.val), ordered(x.val, ">", high.val))
	return made{"bool", maybeTurned(turned(outside), not)}
}

func (m *maker) not() bool {
	if m.chance(70) {
		return false
	}
	m.put("NOT")
	return true
}

func (m *maker) among() made {
	x := m.name()
	not := m.not()
	m.put("IN")
	m.put("(")
	found := false
	for more := true; more; {
		s := m.pick("", "x", "it's", "%a", "y")
		m.put(quote(s))
		found = found || s == x.val.Str
		if more = m.chance(40); more {
			m.put(",")
		}
	}
	m.put(")")
	if x.val.Kind != api.Text {
		return made{"bool", null}
	}
	return made{"bool", maybeTurned(truth(found), not)}
}

func (m *maker) like() made {
	x := m.name()
	not := m.not()
	m.put("LIKE")
	pattern, escape := m.pick("%", "x", "_", "it%", "__", "!%a", "%!!", "", "%a%", "!_!_"), ""
	m.put(quote(pattern))
	if m.chance(40) {
		escape = m.pick("!", "#", "'")
		m.put("ESCAPE")
		m.put(quote(escape))
	}
	if x.val.Kind != api.Text {
		return made{"bool", null}
	}
	return made{"bool", maybeTurned(truth(asExpression(pattern, escape).MatchString(x.val.Str)), not)}
}

func (m *maker) isNull() made {
	x := m.name()
	m.put("IS")
	not := m.not()
	m.put("NULL")
	return made{"bool", maybeTurned(truth(x.val.Kind == api.Null), not)}
}

func (m *maker) sum(open int, wish string) made {
	left := m.product(open, wish)
	for wish == "number" && m.chance(20) {
		left = m.reckoned(left, m.pick("+", "-"), open, m.product)
	}
	return left
}

func (m *maker) product(open int, wish string) made {
	left := m.signed(open, wish)
	for wish == "number" && m.chance(20) {
		left = m.reckoned(left, m.pick("*", "/"), open, m.signed)
	}
	return left
}

func (m *maker) reckoned(left made, token string, open int, operand func(int, string) made) made {
	place := m.put(token)
	right := operand(open, "number")
	m.judge(place, are("number", left, right))
	return made{"number", exactly(left.val, token, right.val)}
}

func (m *maker) signed(open int, wish string) made {
	if m.chance(2) {
		wish = m.pick("number", "text", "bool")
	}
	if m.chance(m.nest) {
		m.opens("(", open)
		inner := m.either(open+1, wish)
		m.put(")")
		return inner
	}
	if wish == "number" && m.chance(m.nest) {
		sign := m.pick("+", "-")
		place := m.opens(sign, open)
		inner := m.signed(open+1, wish)
		m.judge(place, are("number", inner))
		return made{"number", exactly(num(0), sign, inner.val)}
	}
	if m.chance(40) {
		return m.name()
	}
	return m.written(wish)
}

func (m *maker) written(wish string) made {
	switch wish {
	case "number":
		digits := m.pick("0", "1", "2", "07", "9223372036854775807", "4611686018427387904")
		m.put(digits)
		n, _ := new(big.Int).SetString(digits, 10)
		return made{"number", num(n.Int64())}
	case "text":
		s := m.pick("", "x", "it's", "NOT")
		m.put(quote(s))
		return made{"text", text(s)}
	}
	word := m.pick("TRUE", "FALSE", "true")
	m.put(word)
	return made{"bool", truth(word != "FALSE")}
}

func (m *maker) name() made {
	if m.chance(10) {
		m.put("absent")
		return made{"any", null}
	}
	p := m.event[m.r.Intn(len(m.event))]
	m.put(p.Name)
	return made{"any", p.Val}
}

func quote(s string) string { return "'" + strings.ReplaceAll(s, "'", "''") + "'" }

func truth(b bool) api.Value {
	if b {
		return yes
	}
	return no
}

func turned(x api.Value) api.Value {
	switch x {
	case yes:
		return no
	case no:
		return yes
	}
	return null
}

func maybeTurned(x api.Value, not bool) api.Value {
	if not {
		return turned(x)
	}
	return x
}

func someTrue(x, y api.Value) api.Value {
	switch {
	case x == yes || y == yes:
		return yes
	case x == no && y == no:
		return no
	}
	return null
}

func ordered(x api.Value, token string, y api.Value) api.Value {
	if x.Kind != api.Int || y.Kind != api.Int {
		return null
	}
	way := big.NewInt(x.Num).Cmp(big.NewInt(y.Num))
	return truth(way < 0 && token[0] == '<' || way > 0 && token[0] == '>' || way == 0 && len(token) == 2)
}

func exactly(x api.Value, token string, y api.Value) api.Value {
	if x.Kind != api.Int || y.Kind != api.Int || token == "/" && y.Num == 0 {
		return null
	}
	a, b := big.NewInt(x.Num), big.NewInt(y.Num)
	switch token {
	case "+":
		a.Add(a, b)
	case "-":
		a.Sub(a, b)
	case "*":
		a.Mul(a, b)
	default:
		a.Quo(a, b)
	}
	if !a.IsInt64() {
		return null
	}
	return num(a.Int64())
}

func asExpression(pattern, escape string) *regexp.Regexp {
	out := "(?s)^"
	for i := 0; i < len(pattern); i++ {
		switch c := pattern[i : i+1]; {
		case c == escape:
			i++
			out += regexp.QuoteMeta(pattern[i : i+1])
		case c == "%":
			out += ".*"
		case c == "_":
			out += "."
		default:
			out += regexp.QuoteMeta(c)
		}
	}
	return regexp.MustCompile(out + "$")
}

// TestP3P4Made holds the program's answers against the maker's.
func TestP3P4Made(t *testing.T) {
	r := rand.New(rand.NewSource(1))
	event := []api.Property{{Name: "i", Val: num(5)}, {Name: "j", Val: num(-1 << 63)}, {Name: "k", Val: num(1<<63 - 1)}, {Name: "s", Val: text("x")}, {Name: "u", Val: text("it's")}, {Name: "v", Val: yes}, {Name: "w", Val: no}, {Name: "n"}}
	count := map[api.Errno]int{}
	values := map[api.Value]int{}
	for range 100000 {
		m := &maker{r: r, event: event, deep: -1, wrong: -1, nest: []int{5, 20, 45, 80}[r.Intn(4)]}
		top := m.either(0, "bool")
		want, wantErrno, wantPlace := top.val, api.OK, 0
		switch {
		case len(m.text) > 200:
			want, wantErrno = null, api.ErrLong
		case m.deep >= 0:
			want, wantErrno, wantPlace = null, api.ErrDeep, m.deep
		case m.wrong >= 0:
			want, wantErrno, wantPlace = null, api.ErrType, m.wrong
		case !are("bool", top):
			want, wantErrno = null, api.ErrType
		}
		if got, errno, place := sieve.Eval(m.text, event); got != want || errno != wantErrno || place != wantPlace {
			t.Fatalf("Eval(%q) = %v, %d, %d, want %v, %d, %d", m.text, got, errno, place, want, wantErrno, wantPlace)
		}
		count[wantErrno]++
		values[want]++
	}
	for _, errno := range []api.Errno{api.OK, api.ErrLong, api.ErrDeep, api.ErrType} {
		if count[errno] < 1000 {
			t.Errorf("only %d selectors with the answer %d", count[errno], errno)
		}
	}
	t.Log(count, values)
}
