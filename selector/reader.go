package selector

import (
	"slices"

	"sieve/api"
	"sieve/lex"
	"sieve/pattern"
)

// fault is what the reader panics with to give up from deep inside.
type fault struct {
	errno api.Errno
	place int
}

type reader struct {
	text  string
	token lex.Token // the one that is looked at
	after int       // the place behind it
	open  int       // parentheses, NOTs and signs that are open
}

// Read gives the selector that a text is, or the text's error and its place.
func Read(text string) (root *Node, errno api.Errno, place int) {
	if len(text) > api.MaxSelector {
		return nil, api.ErrLong, 0
	}
	defer func() {
		switch f := recover().(type) {
		case nil:
		case fault:
			root, errno, place = nil, f.errno, f.place
		default:
			panic(f)
		}
	}()
	r := reader{text: text}
	r.step()
	root = r.either()
	r.take(lex.End)
	checkClasses(root)
	return root, api.OK, 0
}

func (r *reader) step() {
	r.token, r.after = lex.Next(r.text, r.after)
}

func (r *reader) refuse(place int) {
	panic(fault{api.ErrSyntax, place})
}

// take gives the token that must come and steps behind it.
func (r *reader) take(kind lex.Kind) lex.Token {
	token := r.token
	if token.Kind != kind {
		r.refuse(token.Place)
	}
	r.step()
	return token
}

// skip steps behind a token that may come.
func (r *reader) skip(kind lex.Kind) bool {
	if r.token.Kind != kind {
		return false
	}
	r.step()
	return true
}

// enter opens what the token begins; whoever calls it lowers r.open behind.
func (r *reader) enter() lex.Token {
	token := r.token
	if r.open == api.MaxDepth {
		panic(fault{api.ErrDeep, token.Place})
	}
	r.open++
	r.step()
	return token
}

// row reads operands with operators of one rank between them.
func (r *reader) row(operand func() *Node, operators ...lex.Kind) *Node {
	left := operand()
	for slices.Contains(operators, r.token.Kind) {
		left = r.joined(left, operand)
	}
	return left
}

func (r *reader) joined(left *Node, operand func() *Node) *Node {
	operator := r.token
	r.step()
	return &Node{Op: twoSided(operator.Kind), Place: operator.Place, Sides: []*Node{left, operand()}}
}

func (r *reader) either() *Node { return r.row(r.both, lex.Or) }

func (r *reader) both() *Node { return r.row(r.denied, lex.And) }

func (r *reader) denied() *Node {
	if r.token.Kind != lex.Not {
		return r.test()
	}
	not := r.enter()
	inner := r.denied()
	r.open--
	return denial(inner, not.Place)
}

func denial(inner *Node, place int) *Node {
	return &Node{Op: Not, Place: place, Sides: []*Node{inner}}
}

func (r *reader) test() *Node {
	// A name in parentheses gives the same node as a bare one, but only the
	// bare one may be followed by IN, LIKE or IS.
	beganWithName := r.token.Kind == lex.Name
	left := r.sum()
	bare := beganWithName && left.Op == Name
	switch r.token.Kind {
	case lex.Equal, lex.NotEqual, lex.Less, lex.LessEqual, lex.Greater, lex.GreaterEqual:
		return r.joined(left, r.sum)
	case lex.Is:
		if bare {
			return r.isNull(left)
		}
	case lex.Not:
		place := r.token.Place
		r.step()
		return denial(r.keyword(left, bare), place)
	case lex.Between, lex.In, lex.Like:
		return r.keyword(left, bare)
	}
	return left
}

// keyword reads on from a keyword that may have a NOT ahead of it.
func (r *reader) keyword(left *Node, bare bool) *Node {
	switch {
	case r.token.Kind == lex.In && bare:
		return r.in(left)
	case r.token.Kind == lex.Like && bare:
		return r.like(left)
	}
	return r.between(left)
}

func (r *reader) between(left *Node) *Node {
	between := r.take(lex.Between)
	low := r.sum()
	r.take(lex.And)
	return &Node{Op: Between, Place: between.Place, Sides: []*Node{left, low, r.sum()}}
}

func (r *reader) in(name *Node) *Node {
	in := r.take(lex.In)
	r.take(lex.Open)
	texts := []string{r.take(lex.Text).Str}
	for r.skip(lex.Comma) {
		texts = append(texts, r.take(lex.Text).Str)
	}
	r.take(lex.Close)
	return &Node{Op: In, Place: in.Place, Sides: []*Node{name}, Texts: texts}
}

func (r *reader) like(name *Node) *Node {
	like := r.take(lex.Like)
	fit := r.take(lex.Text)
	escape := ""
	if r.skip(lex.Escape) {
		escape = r.escape(fit)
	}
	return &Node{Op: Like, Place: like.Place, Sides: []*Node{name}, Str: fit.Str, Escape: escape}
}

func (r *reader) escape(fit lex.Token) string {
	escape := r.take(lex.Text)
	if len(escape.Str) != 1 {
		r.refuse(escape.Place)
	}
	if !pattern.Valid(fit.Str, escape.Str) {
		r.refuse(fit.Place)
	}
	return escape.Str
}

func (r *reader) isNull(name *Node) *Node {
	is := r.take(lex.Is)
	not := r.skip(lex.Not)
	r.take(lex.Null)
	node := &Node{Op: IsNull, Place: is.Place, Sides: []*Node{name}}
	if not {
		return denial(node, is.Place)
	}
	return node
}

func (r *reader) sum() *Node { return r.row(r.product, lex.Plus, lex.Minus) }

func (r *reader) product() *Node { return r.row(r.signed, lex.Star, lex.Slash) }

func (r *reader) signed() *Node {
	switch token := r.token; token.Kind {
	case lex.Plus:
		return r.sign(Positive)
	case lex.Minus:
		return r.sign(Negative)
	case lex.Open:
		return r.group()
	case lex.Name:
		r.step()
		return &Node{Op: Name, Place: token.Place, Str: token.Str}
	case lex.Number:
		r.step()
		return &Node{Op: Number, Place: token.Place, Num: token.Num}
	case lex.Text:
		r.step()
		return &Node{Op: Text, Place: token.Place, Str: token.Str}
	case lex.True:
		r.step()
		return &Node{Op: True, Place: token.Place}
	}
	return &Node{Op: False, Place: r.take(lex.False).Place}
}

func (r *reader) sign(op Op) *Node {
	sign := r.enter()
	inner := r.signed()
	r.open--
	return &Node{Op: op, Place: sign.Place, Sides: []*Node{inner}}
}

func (r *reader) group() *Node {
	r.enter()
	inner := r.either()
	r.take(lex.Close)
	r.open--
	return inner
}
