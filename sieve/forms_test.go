package sieve_test

import (
	"maps"
	"regexp"
	"slices"
	"strings"
)

// forms are the canonical texts of a term, of NOT of it and of NOT of that
// one; one more NOT gives the second again. What can't be denied has the first
// alone.
type forms [3]string

func nameForms(name string) forms {
	return forms{name, "(NOT " + name + ")", "(NOT (NOT " + name + "))"}
}

func testForms(test string) forms { return forms{test, "(NOT " + test + ")", test} }

func truthForms(b bool) forms {
	if b {
		return forms{"TRUE", "FALSE", "TRUE"}
	}
	return forms{"FALSE", "TRUE", "FALSE"}
}

func notForms(x forms) forms { return forms{x[1], x[2], x[1]} }

func andForms(x, y forms) forms {
	return forms{inOrder(x[0], "AND", y[0]), inOrder(x[1], "OR", y[1]), inOrder(x[2], "AND", y[2])}
}

func orForms(x, y forms) forms {
	return forms{inOrder(x[0], "OR", y[0]), inOrder(x[1], "AND", y[1]), inOrder(x[2], "OR", y[2])}
}

func orderForms(x, token, y string) forms {
	if token[0] == '>' {
		x, token, y = y, "<"+token[1:], x
	}
	less, lessEqual := "("+x+" < "+y+")", "("+x+" <= "+y+")"
	if token == "<" {
		return forms{less, "(" + y + " <= " + x + ")", less}
	}
	return forms{lessEqual, "(" + y + " < " + x + ")", lessEqual}
}

func sumForms(x, token, y string) forms {
	if token == "+" || token == "*" {
		return forms{inOrder(x, token, y)}
	}
	return forms{"(" + x + " " + token + " " + y + ")"}
}

func amongForms(name string, texts map[string]bool) forms {
	var out forms
	for i, s := range slices.Sorted(maps.Keys(texts)) {
		one := testForms(inOrder(name, "=", quote(s)))
		if i == 0 {
			out = one
		} else {
			out = orForms(out, one)
		}
	}
	return out
}

func inOrder(x, token, y string) string {
	return "(" + min(x, y) + " " + token + " " + max(x, y) + ")"
}

// terms are the canonical texts of all terms of some cores, and of each how
// many bytes a program may have for it.
type terms map[string]int

func (ts terms) bytes() int {
	sum := 0
	for _, n := range ts {
		sum += n
	}
	return sum
}

var canonPieces = regexp.MustCompile(`'(''|[^'])*'|[A-Za-z_$][\w$.]*|[0-9]+|[()]|[-+*/=<>]+`)

// add cuts a canonical text into those of its terms.
func (ts terms) add(canon string) {
	var open []int // the places of the parentheses that are open
	pattern, last := "", ""
	for _, at := range canonPieces.FindAllStringIndex(canon, -1) {
		piece := canon[at[0]:at[1]]
		switch {
		case piece == "(":
			open = append(open, at[0])
		case piece == ")":
			ts[canon[open[len(open)-1]:at[1]]] = 16 + len(pattern)
			open, pattern = open[:len(open)-1], ""
		case last == "LIKE":
			pattern = unquote(piece)
		case last == "ESCAPE" || strings.Contains(" NOT AND OR = < <= + - * / IS NULL LIKE ESCAPE ", " "+piece+" "):
		case piece == "TRUE" || piece == "FALSE" || piece[0] >= '0' && piece[0] <= '9':
			ts[piece] = 16
		default:
			ts[piece] = 16 + len(unquote(piece))
		}
		last = piece
	}
}

func unquote(s string) string {
	if s[0] != '\'' {
		return s
	}
	return strings.ReplaceAll(s[1:len(s)-1], "''", "'")
}
