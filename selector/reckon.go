package selector

import (
	"sieve/api"
	"sieve/events"
	"sieve/value"
)

// Of tells what a term is of an event.
func (n *Node) Of(event []api.Property) api.Value {
	switch n.Op {
	case Name:
		return events.Find(event, n.Str)
	case Number:
		return value.Int(n.Num)
	case Text:
		return value.Text(n.Str)
	case True, False:
		return value.Bool(n.Op == True)
	}
	var of [3]api.Value
	for i, side := range n.Sides {
		of[i] = side.Of(event)
	}
	return n.join(of[0], of[1], of[2])
}

// join works a term out from what its sides are.
func (n *Node) join(x, y, z api.Value) api.Value {
	switch n.Op {
	case Between:
		return value.And(value.LessEqual(y, x), value.LessEqual(x, z))
	case In:
		return n.among(x)
	case Like:
		return value.Like(x, n.Str, n.Escape)
	}
	return n.Op.Join(x, y)
}

// Join works an operator out that needs nothing but what its two sides are,
// or its only one, x.
func (op Op) Join(x, y api.Value) api.Value {
	switch op {
	case Not:
		return value.Not(x)
	case And:
		return value.And(x, y)
	case Or:
		return value.Or(x, y)
	case Equal:
		return value.Equal(x, y)
	case NotEqual:
		return value.Not(value.Equal(x, y))
	case Greater:
		x, y = y, x
		fallthrough
	case Less:
		return value.Less(x, y)
	case GreaterEqual:
		x, y = y, x
		fallthrough
	case LessEqual:
		return value.LessEqual(x, y)
	case Positive:
		x, y = value.Int(0), x
		fallthrough
	case Add:
		return value.Add(x, y)
	case Negative:
		x, y = value.Int(0), x
		fallthrough
	case Subtract:
		return value.Subtract(x, y)
	case Multiply:
		return value.Multiply(x, y)
	case Divide:
		return value.Divide(x, y)
	}
	return value.IsNull(x)
}

func (n *Node) among(x api.Value) api.Value {
	found := value.Bool(false)
	for _, text := range n.Texts {
		found = value.Or(found, value.Equal(x, value.Text(text)))
	}
	return found
}
