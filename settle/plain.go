package settle

import (
	"strings"
	"unicode/utf8"

	"woodcut/text"
	"woodcut/token"
)

// unclean is the signs that don't come back as they were: U+0000, and a return.
const unclean = "\x00\r"

// isClean tells whether a text, written and read again, is the same.
func isClean(s string) bool {
	return utf8.ValidString(s) && !strings.ContainsAny(s, unclean)
}

// arePlain tells whether attributes have plain names, each once, and clean values.
func arePlain(list []token.Attr) bool {
	for _, a := range list {
		if !isPlainName(a.Name) || !isClean(a.Val) {
			return false
		}
	}
	return len(token.Once(list)) == len(list)
}

// isPlainName tells whether an attribute's name begins with a small letter, and has nothing in it that a tag could take for something else.
func isPlainName(name string) bool {
	for at, r := range name {
		if !isSmall(r) && (at == 0 || !text.Digit(r) && !strings.ContainsRune("-_:", r)) {
			return false
		}
	}
	return name != ""
}

func isSmall(r rune) bool { return r >= 'a' && r <= 'z' }
