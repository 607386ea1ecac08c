package selector

import "sieve/api"

type class int

const (
	anyClass class = iota
	numberClass
	textClass
	boolClass
)

// checkClasses gives up, as the reader does, at the first operand of a wrong class.
func checkClasses(root *Node) {
	if c := root.class(); c != boolClass && c != anyClass {
		panic(fault{api.ErrType, 0})
	}
}

func (n *Node) class() class {
	switch n.Op {
	case Name:
		return anyClass
	case Number:
		return numberClass
	case Text:
		return textClass
	case Not, And, Or:
		n.demand(boolClass)
	case Less, LessEqual, Greater, GreaterEqual, Between:
		n.demand(numberClass)
	case Positive, Negative, Add, Subtract, Multiply, Divide:
		n.demand(numberClass)
		return numberClass
	case Equal, NotEqual:
		n.demandAlike()
	}
	return boolClass
}

// demand asks all sides for their class ahead of judging one of them: a fault
// inside any of them comes first.
func (n *Node) demand(want class) {
	fit := true
	for _, side := range n.Sides {
		c := side.class()
		fit = fit && (c == want || c == anyClass)
	}
	if !fit {
		panic(fault{api.ErrType, n.Place})
	}
}

func (n *Node) demandAlike() {
	left, right := n.Sides[0].class(), n.Sides[1].class()
	if left != right && left != anyClass && right != anyClass {
		panic(fault{api.ErrType, n.Place})
	}
}
