package pattern

import "testing"

// words gives all texts of at most so many bytes of an alphabet.
func words(alphabet string, most int) []string {
	out := []string{""}
	for from := 0; most > 0; most-- {
		end := len(out)
		for ; from < end; from++ {
			for _, c := range []byte(alphabet) {
				out = append(out, out[from]+string([]byte{c}))
			}
		}
	}
	return out
}

// plainly fits a pattern by the document's words, trying all ways.
func plainly(pattern, escape, text string) bool {
	switch {
	case pattern == "":
		return text == ""
	case pattern[:1] == escape:
		return text != "" && text[0] == pattern[1] && plainly(pattern[2:], escape, text[1:])
	case pattern[0] == '%':
		return plainly(pattern[1:], escape, text) || text != "" && plainly(pattern, escape, text[1:])
	case pattern[0] == '_':
		return text != "" && plainly(pattern[1:], escape, text[1:])
	}
	return text != "" && text[0] == pattern[0] && plainly(pattern[1:], escape, text[1:])
}

func plainlyValid(pattern, escape string) bool {
	for pattern != "" {
		if pattern[:1] == escape {
			if len(pattern) == 1 {
				return false
			}
			pattern = pattern[1:]
		}
		pattern = pattern[1:]
	}
	return true
}

func TestAllSmallOnes(t *testing.T) {
	texts := words("x%_!", 4)
	for _, escape := range []string{"", "!", "%", "_", "x"} {
		for _, p := range words("x%_!", 4) {
			valid := plainlyValid(p, escape)
			if Valid(p, escape) != valid {
				t.Fatalf("Valid(%q, %q) = %v", p, escape, !valid)
			}
			for _, text := range texts {
				if want := valid && plainly(p, escape, text); Fits(p, escape, text) != want {
					t.Fatalf("Fits(%q, %q, %q) = %v", p, escape, text, !want)
				}
			}
		}
	}
}

func TestBytes(t *testing.T) {
	for _, c := range []struct {
		pattern, escape, text string
		want                  bool
	}{
		{"_", "", "\xff", true}, {"__", "", "\xc3\xa9", true}, {"_", "", "\xc3\xa9", false}, {"\x00", "", "\x00", true}, {"x", "", "X", false},
		{"%a%b%", "", "zazbz", true}, {"%a%b%", "", "zbza", false}, {"a%", "", "ba", false}, {"%ab", "", "aab", true},
		{"\xff%", "\xff", "%", true}, {"\xff%", "\xff", "a", false},
	} {
		if got := Fits(c.pattern, c.escape, c.text); got != c.want {
			t.Errorf("Fits(%q, %q, %q) = %v", c.pattern, c.escape, c.text, got)
		}
	}
}
