// Package lex cuts a selector into its tokens.
package lex

import (
	"strconv"
	"strings"
)

// Kind tells one sort of token from another.
type Kind int

const (
	End Kind = iota
	Bad
	Name
	Number
	Text

	And
	Or
	Not
	True
	False
	Between
	In
	Like
	Escape
	Is
	Null

	Equal
	NotEqual
	Less
	LessEqual
	Greater
	GreaterEqual
	Plus
	Minus
	Star
	Slash
	Open
	Close
	Comma
)

// Token is one token and the place of its first byte. It shares no memory with
// the selector, so that what is made of it may be kept.
type Token struct {
	Kind  Kind
	Place int
	Num   int64  // of a Number
	Str   string // of a Name, or of a Text without its quotes
}

// Next gives the first token from a place on, and the place behind it.
// A fault is a token too (Bad): whether it matters is known only to the
// reader, which may have given up ahead of it.
func Next(text string, from int) (Token, int) {
	at := from
	for at < len(text) && isSpace(text[at]) {
		at++
	}
	if at >= len(text) {
		return Token{Kind: End, Place: len(text)}, len(text)
	}
	token, size := first(text[at:])
	token.Place = at
	return token, at + size
}

// IsName tells whether a text is one word and no keyword.
func IsName(text string) bool {
	size := wordSize(text)
	return size > 0 && size == len(text) && wordKind(text) == Name
}

func first(rest string) (Token, int) {
	switch c := rest[0]; {
	case beginsWord(c):
		return word(rest)
	case isDigit(c):
		return number(rest)
	case c == '\'':
		return quoted(rest)
	}
	return mark(rest)
}

func word(rest string) (Token, int) {
	size := wordSize(rest)
	kind := wordKind(rest[:size])
	if kind != Name {
		return Token{Kind: kind}, size
	}
	return Token{Kind: Name, Str: strings.Clone(rest[:size])}, size
}

func wordSize(rest string) int {
	if rest == "" || !beginsWord(rest[0]) {
		return 0
	}
	size := 1
	for size < len(rest) && goesOnWord(rest[size]) {
		size++
	}
	return size
}

func wordKind(word string) Kind {
	switch strings.ToUpper(word) {
	case "AND":
		return And
	case "OR":
		return Or
	case "NOT":
		return Not
	case "TRUE":
		return True
	case "FALSE":
		return False
	case "BETWEEN":
		return Between
	case "IN":
		return In
	case "LIKE":
		return Like
	case "ESCAPE":
		return Escape
	case "IS":
		return Is
	case "NULL":
		return Null
	}
	return Name
}

func number(rest string) (Token, int) {
	size := 1
	for size < len(rest) && isDigit(rest[size]) {
		size++
	}
	num, err := strconv.ParseInt(rest[:size], 10, 64)
	if err != nil {
		return Token{Kind: Bad}, size
	}
	return Token{Kind: Number, Num: num}, size
}

func quoted(rest string) (Token, int) {
	var inside []byte
	for at := 1; at < len(rest); at++ {
		if rest[at] == '\'' {
			if at+1 == len(rest) || rest[at+1] != '\'' {
				return Token{Kind: Text, Str: string(inside)}, at + 1
			}
			at++ // the second of two quotes that stand for one
		}
		inside = append(inside, rest[at])
	}
	return Token{Kind: Bad}, len(rest)
}

func mark(rest string) (Token, int) {
	size := 1
	switch rest[0] {
	case '<':
		if len(rest) > 1 && rest[1] == '>' {
			return Token{Kind: NotEqual}, 2
		}
		fallthrough
	case '>':
		if len(rest) > 1 && rest[1] == '=' {
			size = 2
		}
	}
	return Token{Kind: markKind(rest[:size])}, size
}

func markKind(mark string) Kind {
	switch mark {
	case "=":
		return Equal
	case "<":
		return Less
	case "<=":
		return LessEqual
	case ">":
		return Greater
	case ">=":
		return GreaterEqual
	case "+":
		return Plus
	case "-":
		return Minus
	case "*":
		return Star
	case "/":
		return Slash
	case "(":
		return Open
	case ")":
		return Close
	case ",":
		return Comma
	}
	return Bad
}

func isSpace(c byte) bool { return c == ' ' || c == '\t' || c == '\n' }

func isDigit(c byte) bool { return '0' <= c && c <= '9' }

func beginsWord(c byte) bool {
	return 'A' <= c && c <= 'Z' || 'a' <= c && c <= 'z' || c == '_' || c == '$'
}

func goesOnWord(c byte) bool { return beginsWord(c) || isDigit(c) || c == '.' }
