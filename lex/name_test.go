package lex

import "testing"

// P9.1: the name without a call of Way, which no call can ask for, as a way is set with a name.
func TestNameOfLastStartTag(t *testing.T) {
	l := New([]byte("<a><B c></d></a></b>"))
	for range 3 {
		l.Next()
	}
	l.way = RawText
	for _, want := range []string{"</a>", ""} {
		if got, found := l.Next(); !found || got.Data != want {
			t.Errorf("%+v, want %q", got, want)
		}
	}
}
