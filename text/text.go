// Package text is layer 1: see shared/doc/01-text.md.
package text

import (
	"iter"
	"slices"
	"strings"
	"unicode/utf8"
)

// Replaced stands where bytes are no text.
const (
	Replaced rune = 0xfffd
)

const (
	byteOrderMark rune = 0xfeff
	blanks             = "\t\n\f\r "
)

// Signs goes through the signs that bytes are, with each the place where it begins.
func Signs(b []byte) iter.Seq2[int, rune] {
	// The iterator outlives the call, and an argument must not be kept.
	own := slices.Clone(b)
	return func(yield func(int, rune) bool) {
		for at := 0; at < len(own); {
			r, size := first(own[at:])
			if !yield(at, r) {
				return
			}
			at += size
		}
	}
}

// first is the sign with which bytes, at least one, begin, and how many of them it takes.
func first(b []byte) (rune, int) {
	lead := b[0]
	if lead < utf8.RuneSelf {
		return rune(lead), 1
	}
	more := followers(lead)
	if more == 0 {
		return Replaced, 1
	}
	r := rune(lead & (0x3f >> more))
	low, high := secondRange(lead)
	for i := range more {
		at := i + 1
		if at == len(b) || b[at] < low || b[at] > high {
			return Replaced, at
		}
		r = r<<6 | rune(b[at]&0x3f)
		low, high = 0x80, 0xbf
	}
	return r, 1 + more
}

// followers is how many bytes a lead byte asks for behind it; 0: it is none.
func followers(lead byte) int {
	switch {
	case lead >= 0xc2 && lead <= 0xdf:
		return 1
	case lead >= 0xe0 && lead <= 0xef:
		return 2
	case lead >= 0xf0 && lead <= 0xf4:
		return 3
	}
	return 0
}

// secondRange bounds the byte behind a lead byte, narrower where a shorter
// form, a surrogate or a number beyond 10ffff would be written otherwise.
func secondRange(lead byte) (low, high byte) {
	switch lead {
	case 0xe0:
		return 0xa0, 0xbf
	case 0xed:
		return 0x80, 0x9f
	case 0xf0:
		return 0x90, 0xbf
	case 0xf4:
		return 0x80, 0x8f
	}
	return 0x80, 0xbf
}

// Decode is the signs that bytes are: without a mark of order in front; each end of a line as one sign.
func Decode(b []byte) []rune {
	rs := make([]rune, 0, len(b))
	afterReturn := false
	for at, r := range Signs(b) {
		switch {
		case at == 0 && r == byteOrderMark:
		case r == '\r':
			rs = append(rs, '\n')
		case r == '\n' && afterReturn:
			// The return ahead of it has already become this line's end.
		default:
			rs = append(rs, r)
		}
		afterReturn = r == '\r'
	}
	return rs
}

// Put lays a sign behind bytes; what is no sign as that which stands for such.
func Put(b []byte, r rune) []byte {
	// Appending to b itself could write into memory that the caller shares.
	out := make([]byte, len(b), len(b)+utf8.UTFMax)
	copy(out, b)
	return utf8.AppendRune(out, r)
}

// Encode is the bytes of signs.
func Encode(rs []rune) []byte {
	out := make([]byte, 0, len(rs))
	for _, r := range rs {
		out = utf8.AppendRune(out, r)
	}
	return out
}

// Blank tells whether a sign is a blank: a tab, an end of a line, a new page, a return, a space.
func Blank(r rune) bool {
	switch r {
	case '\t', '\n', '\f', '\r', ' ':
		return true
	}
	return false
}

// Letter tells whether a sign is one of A to Z or a to z.
func Letter(r rune) bool {
	small := Small(r)
	return small >= 'a' && small <= 'z'
}

// Digit tells whether a sign is one of 0 to 9.
func Digit(r rune) bool { return r >= '0' && r <= '9' }

// Hex is a digit's value, to the base 16; -1: it is none.
func Hex(r rune) int {
	small := Small(r)
	switch {
	case Digit(r):
		return int(r - '0')
	case small >= 'a' && small <= 'f':
		return int(small-'a') + 10
	}
	return -1
}

// Small is a sign, of A to Z the small one.
func Small(r rune) rune {
	if r >= 'A' && r <= 'Z' {
		return r + ('a' - 'A')
	}
	return r
}

// Lower is a text with small letters for A to Z.
func Lower(s string) string {
	// Byte by byte: going by runes would turn bytes that are no text into others.
	b := []byte(s)
	for i, c := range b {
		b[i] = byte(Small(rune(c)))
	}
	return string(b)
}

// Trim is a text without blanks at both ends.
func Trim(s string) string { return strings.Trim(s, blanks) }

// Words is the parts of a text between blanks.
func Words(s string) []string { return strings.FieldsFunc(s, Blank) }
