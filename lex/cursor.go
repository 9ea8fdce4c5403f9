package lex

import (
	"slices"

	"woodcut/text"
)

// none is what comes next at the end: no sign.
const none rune = -1

// cursor is signs, and how many of them have been read.
type cursor struct {
	rs []rune
	at int
}

func (c *cursor) ended() bool { return c.at >= len(c.rs) }

// peek is the sign that comes next.
func (c *cursor) peek() rune {
	if c.ended() {
		return none
	}
	return c.rs[c.at]
}

// take goes past a word of ASCII, if it comes next.
func (c *cursor) take(word string) bool {
	return c.takeAs(word, func(r rune) rune { return r })
}

// takeSmall goes past a word, written small, if it comes next in letters of any size.
func (c *cursor) takeSmall(word string) bool {
	return c.takeAs(word, text.Small)
}

func (c *cursor) takeAs(word string, as func(rune) rune) bool {
	rest := c.rs[c.at:]
	if len(rest) < len(word) {
		return false
	}
	for i, w := range word {
		if as(rest[i]) != w {
			return false
		}
	}
	c.at += len(word)
	return true
}

// until reads the signs ahead of the first one that ends them, or all.
func (c *cursor) until(ends func(rune) bool) []rune {
	from := c.at
	for !c.ended() && !ends(c.rs[c.at]) {
		c.at++
	}
	return c.rs[from:c.at]
}

// upTo reads the signs ahead of the first of some words, and that word; false: all signs, as none of the words is there.
func (c *cursor) upTo(words ...string) ([]rune, bool) {
	from := c.at
	for !c.ended() {
		to := c.at
		if slices.ContainsFunc(words, c.take) {
			return c.rs[from:to], true
		}
		c.at++
	}
	return c.rs[from:], false
}

func (c *cursor) skipBlanks() {
	for text.Blank(c.peek()) {
		c.at++
	}
}

// endsName tells whether a sign ends the name of a tag.
func endsName(r rune) bool {
	return text.Blank(r) || r == '/' || r == '>'
}

// endsWord tells whether a sign ends the name of a doctype, or a value without quotes.
func endsWord(r rune) bool {
	return text.Blank(r) || r == '>'
}

func isQuote(r rune) bool {
	return r == '"' || r == '\''
}

// shown is signs without U+0000, which pages may not hand on.
func shown(rs []rune) []rune {
	out := slices.Clone(rs)
	for i, r := range out {
		if r == 0 {
			out[i] = text.Replaced
		}
	}
	return out
}

// spelt is signs as they are shown.
func spelt(rs []rune) string {
	return string(text.Encode(shown(rs)))
}

// named is a name of signs: as they are shown, in small letters.
func named(rs []rune) string {
	return text.Lower(spelt(rs))
}
