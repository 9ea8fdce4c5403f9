package tree

import (
	"strings"

	"woodcut/text"
	"woodcut/token"
)

const null = "\x00"

// isBlank tells whether a text is of blanks alone.
func isBlank(s string) bool { return text.Trim(s) == "" }

// withoutNull is a text without its U+0000.
func withoutNull(s string) string { return strings.ReplaceAll(s, null, "") }

// withoutNewline is the data of a token, of a text without the newline with which it begins.
func withoutNewline(t token.Token) string {
	if t.Kind != token.Text {
		return t.Data
	}
	return strings.TrimPrefix(t.Data, "\n")
}

// cut parts the blanks with which a text begins from the rest of it, and tells whether there is a rest. Other tokens are all rest.
func (b *Builder) cut(t token.Token) (string, token.Token, bool) {
	// Blanks in the midst of a text don't begin it, wherever the lexer parts it.
	if t.Kind != token.Text || b.begun {
		return "", t, true
	}
	all := t.Data
	t.Data = strings.TrimLeftFunc(all, text.Blank)
	return all[:len(all)-len(t.Data)], t, t.Data != ""
}
