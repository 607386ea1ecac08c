package selector

import (
	"slices"
	"strings"
	"testing"

	"sieve/api"
)

// grammar is the document's, its stars and brackets written out as rules. Words
// that head no rule are tokens.
const grammar = `
selector = either
either = both
either = either OR both
both = denied
both = both AND denied
denied = NOT denied
denied = test
test = sum
test = sum <= sum
test = sum BETWEEN sum AND sum
test = sum NOT BETWEEN sum AND sum
test = name IN ( texts )
test = name NOT IN ( texts )
test = name LIKE text
test = name LIKE text ESCAPE text
test = name NOT LIKE text
test = name NOT LIKE text ESCAPE text
test = name IS NULL
test = name IS NOT NULL
texts = text
texts = texts , text
sum = product
sum = sum + product
sum = sum - product
product = signed
product = product * signed
signed = + signed
signed = - signed
signed = name
signed = number
signed = text
signed = TRUE
signed = ( either )`

type rule struct {
	head string
	body []string
}

func rules() []rule {
	var out []rule
	for _, line := range strings.Split(strings.TrimSpace(grammar), "\n") {
		words := strings.Fields(line)
		out = append(out, rule{words[0], words[2:]})
	}
	return out
}

// item is a rule of which some words have been read since a place (Earley's).
type item struct{ rule, read, since int }

// walk tries all rows of tokens, however they may go on, up to a length.
type walk struct {
	t      *testing.T
	rules  []rule
	tokens []string
	sets   [][]item // behind each token of the row
	row    []string
	most   int
	seen   int
}

func (w *walk) next(i item) string {
	if body := w.rules[i.rule].body; i.read < len(body) {
		return body[i.read]
	}
	return ""
}

// close adds to the last set what follows from what it holds.
func (w *walk) close(set []item) []item {
	add := func(i item) {
		if !slices.Contains(set, i) {
			set = append(set, i)
		}
	}
	for k := 0; k < len(set); k++ {
		i := set[k]
		word := w.next(i)
		if word != "" {
			for n, r := range w.rules {
				if r.head == word {
					add(item{n, 0, len(w.sets)})
				}
			}
			continue
		}
		for _, j := range w.sets[i.since] {
			if w.next(j) == w.rules[i.rule].head {
				add(item{j.rule, j.read + 1, j.since})
			}
		}
	}
	return set
}

func (w *walk) scan(token string) []item {
	var set []item
	for _, i := range w.sets[len(w.sets)-1] {
		if w.next(i) == token {
			set = append(set, item{i.rule, i.read + 1, i.since})
		}
	}
	return w.close(set)
}

func (w *walk) whole() bool {
	return slices.Contains(w.sets[len(w.sets)-1], item{0, 1, 0})
}

// spelled writes the row, with a token behind it, and tells that one's place.
func (w *walk) spelled(last string) (string, int) {
	text, place := "", 0
	for i, token := range append(slices.Clone(w.row), last) {
		place = len(text)
		switch token {
		case "name":
			token = "a"
		case "number":
			token = "1"
		case "text":
			// A pattern is no pattern if its one byte is the escape.
			token = "'" + string("wxyz"[i%4]) + "'"
		}
		text += token + " "
	}
	return text, place
}

func (w *walk) from() {
	w.seen++
	text, end := w.spelled("")
	text = text[:end]
	_, errno, place := Read(text)
	if w.whole() == (errno == api.ErrSyntax) || errno == api.ErrSyntax && place != len(text) {
		w.t.Fatalf("Read(%q): %d, %d; whole: %v", text, errno, place, w.whole())
	}
	for _, token := range w.tokens {
		set := w.scan(token)
		if len(set) == 0 {
			text, want := w.spelled(token)
			if _, errno, place := Read(text); errno != api.ErrSyntax || place != want {
				w.t.Fatalf("Read(%q): %d, %d; want ErrSyntax, %d", text, errno, place, want)
			}
			continue
		}
		if len(w.row) == w.most {
			continue
		}
		w.sets, w.row = append(w.sets, set), append(w.row, token)
		w.from()
		w.sets, w.row = w.sets[:len(w.sets)-1], w.row[:len(w.row)-1]
	}
}

// TestGrammar holds the reader against the document's grammar: every row of up
// to five tokens that a selector can begin with is read to its end, and every
// token that can't come next behind it is refused at its own place.
func TestGrammar(t *testing.T) {
	w := &walk{t: t, rules: rules(), most: 5}
	for _, r := range w.rules {
		for _, word := range r.body {
			heads := slices.ContainsFunc(w.rules, func(o rule) bool { return o.head == word })
			if !heads && !slices.Contains(w.tokens, word) {
				w.tokens = append(w.tokens, word)
			}
		}
	}
	first := w.close([]item{{0, 0, 0}})
	w.sets = [][]item{first}
	w.from()
	if w.seen < 10000 {
		t.Fatalf("only %d rows were tried", w.seen)
	}
	t.Logf("%d rows", w.seen)
}
