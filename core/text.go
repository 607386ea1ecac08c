package core

import (
	"strconv"
	"strings"

	"sieve/selector"
)

// spelled gives a term its canonical text, once: what holds it asks for it often.
func spelled(c Core) *Core {
	c.Text = c.spell()
	return &c
}

func (c *Core) spell() string {
	switch c.Op {
	case selector.Name:
		return c.Str
	case selector.Number:
		return strconv.FormatInt(c.Num, 10)
	case selector.Text:
		return quoted(c.Str)
	case selector.True:
		return "TRUE"
	case selector.False:
		return "FALSE"
	case selector.Not:
		return "(NOT " + c.Left.Text + ")"
	case selector.IsNull:
		return "(" + c.Left.Text + " IS NULL)"
	case selector.Like:
		return "(" + c.Left.Text + " LIKE " + quoted(c.Str) + c.spellEscape() + ")"
	}
	return "(" + c.Left.Text + " " + sign(c.Op) + " " + c.Right.Text + ")"
}

func (c *Core) spellEscape() string {
	if c.Escape == "" {
		return ""
	}
	return " ESCAPE " + quoted(c.Escape)
}

func quoted(text string) string {
	return "'" + strings.ReplaceAll(text, "'", "''") + "'"
}

// sign tells what stands between the two sides of an operator.
func sign(op selector.Op) string {
	switch op {
	case selector.And:
		return "AND"
	case selector.Or:
		return "OR"
	case selector.Equal:
		return "="
	case selector.Less:
		return "<"
	case selector.LessEqual:
		return "<="
	case selector.Add:
		return "+"
	case selector.Subtract:
		return "-"
	case selector.Multiply:
		return "*"
	}
	return "/"
}
