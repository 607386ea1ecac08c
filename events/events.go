// Package events tells which lists of properties are events, and what they hold.
package events

import (
	"sieve/api"
	"sieve/lex"
)

// Valid tells whether a list of properties is an event.
func Valid(props []api.Property) bool {
	if len(props) > api.MaxProps {
		return false
	}
	for i, p := range props {
		if !validName(p.Name) || !validValue(p.Val) || has(props[:i], p.Name) {
			return false
		}
	}
	return true
}

// Find gives the value of the property of a name, Null if there is none.
func Find(props []api.Property, name string) api.Value {
	for _, p := range props {
		if p.Name == name {
			return p.Val
		}
	}
	return api.Value{}
}

func has(props []api.Property, name string) bool {
	for _, p := range props {
		if p.Name == name {
			return true
		}
	}
	return false
}

func validName(name string) bool { return len(name) <= api.MaxName && lex.IsName(name) }

func validValue(v api.Value) bool {
	switch v.Kind {
	case api.Null:
		return v.Num == 0 && v.Str == ""
	case api.Bool:
		return (v.Num == 0 || v.Num == 1) && v.Str == ""
	case api.Int:
		return v.Str == ""
	case api.Text:
		return v.Num == 0 && len(v.Str) <= api.MaxStr
	}
	return false
}
