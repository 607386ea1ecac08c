package program

import (
	"sieve/api"
	"sieve/events"
	"sieve/selector"
	"sieve/value"
)

// Run tells the numbers of the selectors that are true of an event.
func (p *Program) Run(event []api.Property) []int {
	values := make([]api.Value, len(p.terms))
	for at, term := range p.terms {
		values[at] = term.of(event, values)
	}
	var met []int
	for number, root := range p.roots {
		if values[root] == value.Bool(true) {
			met = append(met, number)
		}
	}
	return met
}

// of works a term out; what its sides are is known by then.
func (t Term) of(event []api.Property, values []api.Value) api.Value {
	switch t.Op {
	case selector.Name:
		return events.Find(event, t.Str)
	case selector.Number:
		return value.Int(t.Num)
	case selector.Text:
		return value.Text(t.Str)
	case selector.True, selector.False:
		return value.Bool(t.Op == selector.True)
	case selector.Like:
		return value.Like(values[t.Left], t.Str, t.Escape)
	}
	return t.Op.Join(values[t.Left], values[t.Right])
}
