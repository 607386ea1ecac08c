package sieve_test

import (
	"math/big"
	"math/rand"
	"regexp"
	"slices"
	"strings"
	"testing"

	"sieve/api"
	"sieve/sieve"
)

// maker writes a selector of its own choice and works out along the way, apart
// from the program, which error it has, or else what it is of an event, and
// its canonical text.
type maker struct {
	r     *rand.Rand
	event []api.Property
	text  string
	deep  int // the place of the first token with which too many are open, or -1
	wrong int // the place of the first term with an operand of a wrong class, or -1
	nest  int // of a hundred, how often it opens something
}

type made struct {
	class string
	val   api.Value
	canon forms
}

func (m *maker) put(token string) int {
	place := len(m.text)
	m.text += token + []string{" ", " ", " ", "\t", "\n", "  "}[m.r.Intn(6)]
	return place
}

// chance says no behind the length of a selector, so that the text ends.
func (m *maker) chance(percent int) bool {
	return len(m.text) <= 200 && m.r.Intn(100) < percent
}

func (m *maker) pick(tokens ...string) string { return tokens[m.r.Intn(len(tokens))] }

// opens puts a token with which one more is open than before.
func (m *maker) opens(token string, open int) int {
	place := m.put(token)
	if open+1 > 12 && m.deep < 0 {
		m.deep = place
	}
	return place
}

func (m *maker) judge(place int, fits bool) {
	if !fits && m.wrong < 0 {
		m.wrong = place
	}
}

func are(class string, terms ...made) bool {
	for _, x := range terms {
		if x.class != class && x.class != "any" {
			return false
		}
	}
	return true
}

func (m *maker) either(open int, wish string) made {
	left := m.both(open, wish)
	for wish == "bool" && m.chance(20) {
		place := m.put(m.pick("OR", "or"))
		right := m.both(open, wish)
		m.judge(place, are("bool", left, right))
		left = made{"bool", someTrue(left.val, right.val), orForms(left.canon, right.canon)}
	}
	return left
}

func (m *maker) both(open int, wish string) made {
	left := m.denied(open, wish)
	for wish == "bool" && m.chance(20) {
		place := m.put(m.pick("AND", "And"))
		right := m.denied(open, wish)
		m.judge(place, are("bool", left, right))
		left = made{"bool", turned(someTrue(turned(left.val), turned(right.val))), andForms(left.canon, right.canon)}
	}
	return left
}

func (m *maker) denied(open int, wish string) made {
	if wish != "bool" || !m.chance(m.nest) {
		return m.test(open, wish)
	}
	place := m.opens(m.pick("NOT", "not"), open)
	inner := m.denied(open+1, wish)
	m.judge(place, are("bool", inner))
	return made{"bool", turned(inner.val), notForms(inner.canon)}
}

func (m *maker) test(open int, wish string) made {
	if wish != "bool" {
		return m.sum(open, wish)
	}
	switch m.r.Intn(7) {
	case 0:
		return m.equation(open)
	case 1:
		return m.order(open)
	case 2:
		return m.between(open)
	case 3:
		return m.among()
	case 4:
		return m.like()
	case 5:
		return m.isNull()
	}
	return m.sum(open, wish)
}

func (m *maker) equation(open int) made {
	wish := m.pick("number", "text", "bool")
	left := m.sum(open, wish)
	token := m.pick("=", "<>")
	place := m.put(token)
	right := m.sum(open, wish)
	m.judge(place, left.class == "any" || are(left.class, right))
	val, canon := null, testForms(inOrder(left.canon[0], "=", right.canon[0]))
	if left.val.Kind == right.val.Kind && left.val.Kind != api.Null {
		val = truth((left.val == right.val) == (token == "="))
	}
	if token == "<>" {
		canon = notForms(canon)
	}
	return made{"bool", val, canon}
}

func (m *maker) order(open int) made {
	left := m.sum(open, "number")
	token := m.pick("<", "<=", ">", ">=")
	place := m.put(token)
	right := m.sum(open, "number")
	m.judge(place, are("number", left, right))
	return made{"bool", ordered(left.val, token, right.val), orderForms(left.canon[0], token, right.canon[0])}
}

func (m *maker) between(open int) made {
	x := m.sum(open, "number")
	not := m.not()
	place := m.put("BETWEEN")
	low := m.sum(open, "number")
	m.put("AND")
	high := m.sum(open, "number")
	m.judge(place, are("number", x, low, high))
	outside := someTrue(ordered(x.val, "<", low.val), ordered(x.val, ">", high.val))
	canon := andForms(orderForms(x.canon[0], ">=", low.canon[0]), orderForms(x.canon[0], "<=", high.canon[0]))
	return made{"bool", turned(outside), canon}.maybeTurned(not)
}

func (m *maker) not() bool {
	if m.chance(70) {
		return false
	}
	m.put("NOT")
	return true
}

func (m *maker) among() made {
	x := m.name()
	not := m.not()
	m.put("IN")
	m.put("(")
	found, texts := false, map[string]bool{}
	for more := true; more; {
		s := m.pick("", "x", "it's", "%a", "y", "xx", "'")
		m.put(quote(s))
		found = found || s == x.val.Str
		texts[s] = true
		if more = m.chance(40); more {
			m.put(",")
		}
	}
	m.put(")")
	val := null
	if x.val.Kind == api.Text {
		val = truth(found)
	}
	return made{"bool", val, amongForms(x.canon[0], texts)}.maybeTurned(not)
}

func (m *maker) like() made {
	x := m.name()
	not := m.not()
	m.put("LIKE")
	pattern, escape := m.pick("%", "x", "_", "it%", "__", "!%a", "%!!", "", "%a%", "!_!_"), ""
	m.put(quote(pattern))
	canon := x.canon[0] + " LIKE " + quote(pattern)
	if m.chance(40) {
		escape = m.pick("!", "#", "'")
		m.put("ESCAPE")
		m.put(quote(escape))
		canon += " ESCAPE " + quote(escape)
	}
	val := null
	if x.val.Kind == api.Text {
		val = truth(asExpression(pattern, escape).MatchString(x.val.Str))
	}
	return made{"bool", val, testForms("(" + canon + ")")}.maybeTurned(not)
}

func (m *maker) isNull() made {
	x := m.name()
	m.put("IS")
	not := m.not()
	m.put("NULL")
	return made{"bool", truth(x.val.Kind == api.Null), testForms("(" + x.canon[0] + " IS NULL)")}.maybeTurned(not)
}

func (m *maker) sum(open int, wish string) made {
	left := m.product(open, wish)
	for wish == "number" && m.chance(20) {
		left = m.reckoned(left, m.pick("+", "-"), open, m.product)
	}
	return left
}

func (m *maker) product(open int, wish string) made {
	left := m.signed(open, wish)
	for wish == "number" && m.chance(20) {
		left = m.reckoned(left, m.pick("*", "/"), open, m.signed)
	}
	return left
}

func (m *maker) reckoned(left made, token string, open int, operand func(int, string) made) made {
	place := m.put(token)
	right := operand(open, "number")
	m.judge(place, are("number", left, right))
	return made{"number", exactly(left.val, token, right.val), sumForms(left.canon[0], token, right.canon[0])}
}

func (m *maker) signed(open int, wish string) made {
	if m.chance(2) {
		wish = m.pick("number", "text", "bool")
	}
	if m.chance(m.nest) {
		m.opens("(", open)
		inner := m.either(open+1, wish)
		m.put(")")
		return inner
	}
	if wish == "number" && m.chance(m.nest) {
		sign := m.pick("+", "-")
		place := m.opens(sign, open)
		inner := m.signed(open+1, wish)
		m.judge(place, are("number", inner))
		return made{"number", exactly(num(0), sign, inner.val), sumForms("0", sign, inner.canon[0])}
	}
	if m.chance(40) {
		return m.name()
	}
	return m.written(wish)
}

func (m *maker) written(wish string) made {
	switch wish {
	case "number":
		digits := m.pick("0", "1", "2", "07", "9223372036854775807", "4611686018427387904")
		m.put(digits)
		n, _ := new(big.Int).SetString(digits, 10)
		return made{"number", num(n.Int64()), forms{n.String()}}
	case "text":
		s := m.pick("", "x", "it's", "NOT")
		m.put(quote(s))
		return made{"text", text(s), forms{quote(s)}}
	}
	word := m.pick("TRUE", "FALSE", "true")
	m.put(word)
	return made{"bool", truth(word != "FALSE"), truthForms(word != "FALSE")}
}

func (m *maker) name() made {
	if m.chance(10) {
		m.put("absent")
		return made{"any", null, nameForms("absent")}
	}
	p := m.event[m.r.Intn(len(m.event))]
	m.put(p.Name)
	return made{"any", p.Val, nameForms(p.Name)}
}

func quote(s string) string { return "'" + strings.ReplaceAll(s, "'", "''") + "'" }

func truth(b bool) api.Value {
	if b {
		return yes
	}
	return no
}

func turned(x api.Value) api.Value {
	switch x {
	case yes:
		return no
	case no:
		return yes
	}
	return null
}

func (x made) maybeTurned(not bool) made {
	if not {
		return made{x.class, turned(x.val), notForms(x.canon)}
	}
	return x
}

func someTrue(x, y api.Value) api.Value {
	switch {
	case x == yes || y == yes:
		return yes
	case x == no && y == no:
		return no
	}
	return null
}

func ordered(x api.Value, token string, y api.Value) api.Value {
	if x.Kind != api.Int || y.Kind != api.Int {
		return null
	}
	way := big.NewInt(x.Num).Cmp(big.NewInt(y.Num))
	return truth(way < 0 && token[0] == '<' || way > 0 && token[0] == '>' || way == 0 && len(token) == 2)
}

func exactly(x api.Value, token string, y api.Value) api.Value {
	if x.Kind != api.Int || y.Kind != api.Int || token == "/" && y.Num == 0 {
		return null
	}
	a, b := big.NewInt(x.Num), big.NewInt(y.Num)
	switch token {
	case "+":
		a.Add(a, b)
	case "-":
		a.Sub(a, b)
	case "*":
		a.Mul(a, b)
	default:
		a.Quo(a, b)
	}
	if !a.IsInt64() {
		return null
	}
	return num(a.Int64())
}

func asExpression(pattern, escape string) *regexp.Regexp {
	out := "(?s)^"
	for i := 0; i < len(pattern); i++ {
		switch c := pattern[i : i+1]; {
		case c == escape:
			i++
			out += regexp.QuoteMeta(pattern[i : i+1])
		case c == "%":
			out += ".*"
		case c == "_":
			out += "."
		default:
			out += regexp.QuoteMeta(c)
		}
	}
	return regexp.MustCompile(out + "$")
}

// sample is a text, and what a program must answer of it.
type sample struct {
	text  string
	val   api.Value
	canon string
	errno api.Errno
	place int
}

func madeEvent() []api.Property {
	return []api.Property{{Name: "i", Val: num(5)}, {Name: "j", Val: num(-1 << 63)}, {Name: "k", Val: num(1<<63 - 1)}, {Name: "s", Val: text("x")}, {Name: "u", Val: text("it's")}, {Name: "v", Val: yes}, {Name: "w", Val: no}, {Name: "n"}}
}

// someSample makes a text: a selector, if all goes well.
func someSample(r *rand.Rand) sample {
	m := &maker{r: r, event: madeEvent(), deep: -1, wrong: -1, nest: []int{5, 20, 45, 80}[r.Intn(4)]}
	top := m.either(0, "bool")
	switch {
	case len(m.text) > 200:
		return sample{text: m.text, errno: api.ErrLong}
	case m.deep >= 0:
		return sample{text: m.text, errno: api.ErrDeep, place: m.deep}
	case m.wrong >= 0:
		return sample{text: m.text, errno: api.ErrType, place: m.wrong}
	case !are("bool", top):
		return sample{text: m.text, errno: api.ErrType}
	}
	return sample{text: m.text, val: top.val, canon: top.canon[0]}
}

// TestMade holds the program's answers of single texts against the maker's (P3 to P5).
func TestMade(t *testing.T) {
	r := rand.New(rand.NewSource(1))
	count := map[api.Errno]int{}
	values := map[api.Value]int{}
	for range 100000 {
		s := someSample(r)
		if got, errno, place := sieve.Eval(s.text, madeEvent()); got != s.val || errno != s.errno || place != s.place {
			t.Fatalf("Eval(%q) = %v, %d, %d, want %v, %d, %d", s.text, got, errno, place, s.val, s.errno, s.place)
		}
		if got, errno, place := sieve.Canon(s.text); got != s.canon || errno != s.errno || place != s.place {
			t.Fatalf("Canon(%q) = %q, %d, %d, want %q, %d, %d", s.text, got, errno, place, s.canon, s.errno, s.place)
		}
		count[s.errno]++
		values[s.val]++
	}
	for _, errno := range []api.Errno{api.OK, api.ErrLong, api.ErrDeep, api.ErrType} {
		if count[errno] < 1000 {
			t.Errorf("only %d selectors with the answer %d", count[errno], errno)
		}
	}
	t.Log(count, values)
}

// TestMadePrograms does the same with several texts at once (P6, P7).
func TestMadePrograms(t *testing.T) {
	r := rand.New(rand.NewSource(2))
	count := map[api.Errno]int{}
	for range 6000 {
		least := r.Intn(2) * r.Intn(150) // long ones fill a program
		var texts []string
		var met []int
		want, at, terms := api.OK, 0, terms{}
		for number := range r.Intn(9) {
			s := someSample(r)
			for (s.errno != api.OK || len(s.text) < least) && r.Intn(20) > 0 {
				s = someSample(r)
			}
			texts = append(texts, s.text)
			if want != api.OK {
				continue
			}
			if terms.add(s.canon); s.errno != api.OK {
				want, at = s.errno, number
			} else if len(terms) > 80 {
				want, at = api.ErrFull, number
			} else if s.val == yes {
				met = append(met, number)
			}
		}
		code, errno, number := sieve.Compile(texts)
		if errno != want || number != at || errno != api.OK && len(code) > 0 {
			t.Fatalf("Compile(%q): %d bytes, %d, %d, want %d, %d", texts, len(code), errno, number, want, at)
		}
		count[want]++
		if want != api.OK {
			continue
		}
		if most := 16 + terms.bytes() + 4*len(texts); len(code) > most {
			t.Fatalf("Compile(%q): %d bytes, want at most %d", texts, len(code), most)
		}
		if got, errno := sieve.Run(code, madeEvent()); !slices.Equal(got, met) || errno != api.OK {
			t.Fatalf("Run(Compile(%q)) = %v, %d, want %v", texts, got, errno, met)
		}
	}
	for _, errno := range []api.Errno{api.OK, api.ErrLong, api.ErrDeep, api.ErrType, api.ErrFull} {
		if count[errno] < 20 {
			t.Errorf("only %d lists with the answer %d", count[errno], errno)
		}
	}
	t.Log(count)
}
