// Package program makes one program of many selectors, in which what they
// have in common is there, and is reckoned, once.
package program

import (
	"sieve/core"
	"sieve/selector"
)

// Term is a term of a program. Terms are shared by what they are: as the key
// of a map, two that are alike are one.
type Term struct {
	Op     selector.Op // one of those that a core has
	Left   int         // the place of the left side or of the only one, else 0
	Right  int         // the place of the right side, else 0
	Num    int64
	Str    string
	Escape string
}

// Program is a row of terms, each of them behind its sides.
type Program struct {
	terms []Term
	roots []int // the place of each selector's own term
}

// Terms tells how many terms a program has.
func (p *Program) Terms() int { return len(p.terms) }

// Maker makes a program, selector by selector.
type Maker struct {
	Program
	places map[Term]int
}

// NewMaker begins with a program without selectors.
func NewMaker() *Maker { return &Maker{places: map[Term]int{}} }

// Add gives a program one more selector.
func (m *Maker) Add(root *core.Core) {
	m.roots = append(m.roots, m.place(root))
}

func (m *Maker) place(c *core.Core) int {
	if c == nil {
		return 0
	}
	term := Term{Op: c.Op, Left: m.place(c.Left), Right: m.place(c.Right), Num: c.Num, Str: c.Str, Escape: c.Escape}
	if at, ok := m.places[term]; ok {
		return at
	}
	at := len(m.terms)
	m.places[term] = at
	m.terms = append(m.terms, term)
	return at
}
