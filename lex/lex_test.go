package lex

import (
	"slices"
	"testing"
)

func all(text string) []Token {
	var tokens []Token
	at := 0
	for {
		token, after := Next(text, at)
		tokens = append(tokens, token)
		if token.Kind == End {
			return tokens
		}
		at = after
	}
}

func TestTokens(t *testing.T) {
	for _, c := range []struct {
		text string
		want []Token
	}{
		{"", []Token{{Kind: End}}},
		{" \t\n", []Token{{Kind: End, Place: 3}}},
		{"a <>1", []Token{{Kind: Name, Str: "a"}, {Kind: NotEqual, Place: 2}, {Kind: Number, Place: 4, Num: 1}, {Kind: End, Place: 5}}},
		{"<<=<>>=>=", []Token{{Kind: Less}, {Kind: LessEqual, Place: 1}, {Kind: NotEqual, Place: 3}, {Kind: GreaterEqual, Place: 5}, {Kind: GreaterEqual, Place: 7}, {Kind: End, Place: 9}}},
		{"<", []Token{{Kind: Less}, {Kind: End, Place: 1}}},
		{">", []Token{{Kind: Greater}, {Kind: End, Place: 1}}},
		{"><", []Token{{Kind: Greater}, {Kind: Less, Place: 1}, {Kind: End, Place: 2}}},
		{"=>", []Token{{Kind: Equal}, {Kind: Greater, Place: 1}, {Kind: End, Place: 2}}},
		{"+-*/(),", []Token{{Kind: Plus}, {Kind: Minus, Place: 1}, {Kind: Star, Place: 2}, {Kind: Slash, Place: 3}, {Kind: Open, Place: 4}, {Kind: Close, Place: 5}, {Kind: Comma, Place: 6}, {Kind: End, Place: 7}}},
		{"$_.9z.", []Token{{Kind: Name, Str: "$_.9z."}, {Kind: End, Place: 6}}},
		{"12ab", []Token{{Kind: Number, Num: 12}, {Kind: Name, Place: 2, Str: "ab"}, {Kind: End, Place: 4}}},
		{"''", []Token{{Kind: Text}, {Kind: End, Place: 2}}},
		{"''''", []Token{{Kind: Text, Str: "'"}, {Kind: End, Place: 4}}},
		{"'a''b''' 'c'", []Token{{Kind: Text, Str: "a'b'"}, {Kind: Text, Place: 9, Str: "c"}, {Kind: End, Place: 12}}},
		{"'\x00\xff\n'", []Token{{Kind: Text, Str: "\x00\xff\n"}, {Kind: End, Place: 5}}},
		{" '", []Token{{Kind: Bad, Place: 1}, {Kind: End, Place: 2}}},
		{"'a''", []Token{{Kind: Bad}, {Kind: End, Place: 4}}},
		{"#.\r", []Token{{Kind: Bad}, {Kind: Bad, Place: 1}, {Kind: Bad, Place: 2}, {Kind: End, Place: 3}}},
		{"9223372036854775807", []Token{{Kind: Number, Num: 9223372036854775807}, {Kind: End, Place: 19}}},
		{"9223372036854775808 a", []Token{{Kind: Bad}, {Kind: Name, Place: 20, Str: "a"}, {Kind: End, Place: 21}}},
		{"000000000000000000000000012", []Token{{Kind: Number, Num: 12}, {Kind: End, Place: 27}}},
	} {
		if got := all(c.text); !slices.Equal(got, c.want) {
			t.Errorf("tokens of %q: %v, want %v", c.text, got, c.want)
		}
	}
}

func TestKeywords(t *testing.T) {
	for text, want := range map[string]Kind{
		"AND": And, "and": And, "aNd": And, "OR": Or, "oR": Or, "NOT": Not, "Not": Not, "TRUE": True, "true": True, "FALSE": False, "False": False,
		"BETWEEN": Between, "between": Between, "IN": In, "in": In, "LIKE": Like, "like": Like, "ESCAPE": Escape, "escape": Escape, "IS": Is, "is": Is, "NULL": Null, "nUlL": Null,
	} {
		if token, after := Next(text, 0); token != (Token{Kind: want}) || after != len(text) {
			t.Errorf("%q: %v, %d", text, token, after)
		}
		if IsName(text) {
			t.Errorf("%q is a keyword and no name", text)
		}
		for _, name := range []string{text + "s", text + ".", text + "1", "_" + text} {
			if token, after := Next(name, 0); token != (Token{Kind: Name, Str: name}) || after != len(name) || !IsName(name) {
				t.Errorf("%q is a name: %v, %d", name, token, after)
			}
		}
	}
}

// TestBytes holds every byte against the document's lists, at the beginning of
// a word and within one.
func TestBytes(t *testing.T) {
	const begin = "ABCDEFGHIJKLMNOPQRSTUVWXYZabcdefghijklmnopqrstuvwxyz_$"
	const within = begin + "0123456789."
	for c := range 256 {
		one := string([]byte{byte(c)})
		if got, want := IsName(one), slices.Contains([]byte(begin), byte(c)); got != want {
			t.Errorf("byte %d begins a name: %v", c, got)
		}
		if got, want := IsName("a"+one), slices.Contains([]byte(within), byte(c)); got != want {
			t.Errorf("byte %d goes on with a name: %v", c, got)
		}
		token, _ := Next(one, 0)
		if got, want := token.Kind == End, c == 32 || c == 9 || c == 10; got != want {
			t.Errorf("byte %d is a space: %v", c, got)
		}
	}
	if IsName("") {
		t.Error("the empty text is no name")
	}
}
