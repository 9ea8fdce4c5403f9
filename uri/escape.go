package uri

import (
	"woodcut/api"
	"woodcut/text"
)

const (
	escape = '%'
	digits = "0123456789ABCDEF"
)

// Decode is a text, its signs that are written as numbers as what they mean.
func Decode(s string) (string, api.Errno) {
	out := make([]byte, 0, len(s))
	for at := 0; at < len(s); at++ {
		c := s[at]
		if c == escape {
			value := number(s[at+1:])
			if value < 0 {
				return "", api.ErrForm
			}
			c = byte(value)
			at += 2
		}
		out = append(out, c)
	}
	return string(out), api.OK
}

// number is the value of the two digits with which a text begins; less than 0: it doesn't begin so.
func number(s string) int {
	if len(s) < 2 {
		return -1
	}
	high, low := text.Hex(rune(s[0])), text.Hex(rune(s[1]))
	if high < 0 || low < 0 {
		return -1
	}
	return high<<4 | low
}

// Encode is a text, all but letters, digits, and some signs written as numbers; strokes stay, if so.
func Encode(s string, strokes bool) string {
	out := make([]byte, 0, len(s))
	for at := range len(s) {
		c := s[at]
		if isPlain(c) || strokes && c == '/' {
			out = append(out, c)
		} else {
			out = append(out, escape, digits[c>>4], digits[c&0xf])
		}
	}
	return string(out)
}

// isPlain tells whether a byte never needs to be written as a number.
func isPlain(c byte) bool {
	switch c {
	case '-', '.', '_', '~':
		return true
	}
	return text.Letter(rune(c)) || text.Digit(rune(c))
}
