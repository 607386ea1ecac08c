// Package pattern holds the patterns of LIKE against texts.
package pattern

type kind int

const (
	itself kind = iota
	oneByte
	anyBytes
)

type piece struct {
	kind kind
	c    byte
}

// Valid tells whether no escape of a pattern lacks the byte behind it.
// The escape is one byte, or none: the empty text.
func Valid(pattern, escape string) bool {
	_, ok := cut(pattern, escape)
	return ok
}

// Fits tells whether a pattern fits a text from end to end.
func Fits(pattern, escape, text string) bool {
	pieces, ok := cut(pattern, escape)
	if !ok {
		return false
	}
	// Keeping all ends that the pieces so far can reach bounds the work by
	// the product of both lengths, where trying each end in turn would not.
	ends := make([]bool, len(text)+1)
	ends[0] = true
	for _, p := range pieces {
		ends = p.from(ends, text)
	}
	return ends[len(text)]
}

func (p piece) from(ends []bool, text string) []bool {
	next := make([]bool, len(ends))
	if p.kind == anyBytes {
		next[0] = ends[0]
	}
	for i := range len(text) {
		switch p.kind {
		case anyBytes:
			next[i+1] = ends[i+1] || next[i]
		case oneByte:
			next[i+1] = ends[i]
		default:
			next[i+1] = ends[i] && text[i] == p.c
		}
	}
	return next
}

func cut(pattern, escape string) ([]piece, bool) {
	var pieces []piece
	for at := 0; at < len(pattern); at++ {
		// The escape is asked for first: it may be a % or a _ itself.
		if escape != "" && pattern[at] == escape[0] {
			at++
			if at == len(pattern) {
				return nil, false
			}
			pieces = append(pieces, piece{itself, pattern[at]})
			continue
		}
		pieces = append(pieces, plain(pattern[at]))
	}
	return pieces, true
}

func plain(c byte) piece {
	switch c {
	case '%':
		return piece{kind: anyBytes}
	case '_':
		return piece{kind: oneByte}
	}
	return piece{itself, c}
}
