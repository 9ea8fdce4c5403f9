package lex

import (
	"woodcut/chars"
	"woodcut/text"
)

// expand is signs with what their references stand for in the references' places.
func expand(rs []rune, inValue bool) string {
	out := make([]rune, 0, len(rs))
	for len(rs) > 0 {
		signs, size := reference(rs, inValue)
		if size == 0 {
			signs, size = rs[:1], 1
		}
		out = append(out, signs...)
		rs = rs[size:]
	}
	return string(text.Encode(out))
}

// reference is what a reference in front of signs, at least one, stands for, and how many of them it takes; 0: there is none.
func reference(rs []rune, inValue bool) ([]rune, int) {
	switch {
	case rs[0] != '&':
		return nil, 0
	case len(rs) > 1 && rs[1] == '#':
		return numeric(rs)
	}
	return byName(rs, inValue)
}

// numeric is a reference by a number, behind the signs &#.
func numeric(rs []rune) ([]rune, int) {
	size, base := 2, 10
	if len(rs) > size && text.Small(rs[size]) == 'x' {
		size, base = 3, 16
	}
	n, digits := chars.Number(rs[size:], base)
	if digits == 0 {
		return nil, 0
	}
	size += digits
	if len(rs) > size && rs[size] == ';' {
		size++
	}
	return []rune{chars.Numeric(n)}, size
}

// byName is a reference by a name, behind the sign &.
func byName(rs []rune, inValue bool) ([]rune, int) {
	signs, size, closed := chars.Match(rs[1:])
	if size == 0 {
		return nil, 0
	}
	size++
	// Addresses have parts such as &copy=1, which don't mean the sign.
	if inValue && !closed && len(rs) > size && goesOn(rs[size]) {
		return nil, 0
	}
	return signs, size
}

// goesOn tells whether a sign behind a name in a value makes it a part of an address.
func goesOn(r rune) bool {
	return r == '=' || text.Letter(r) || text.Digit(r)
}
