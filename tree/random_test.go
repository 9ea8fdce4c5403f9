package tree_test

import (
	"math/rand"
	"strings"
	"testing"

	"woodcut/api"
	"woodcut/dom"
	"woodcut/tree"
)

// vocabularies is names that meet each other in random pages.
func vocabularies() [][]string {
	return [][]string{
		words("a b i nobr p div span li ul button h1 address"),
		words("table tr td th tbody thead caption colgroup col a b p form input select template"),
		words("svg math mi desc title foreignObject annotation-xml b p table td font g mglyph a"),
		words("select option optgroup hr input textarea table tr td template script p"),
		words("template table tr td col caption select svg desc p b title style"),
		words("ruby rb rt rtc rp dl dt dd li ol pre listing object marquee plaintext xmp image form br"),
	}
}

// randomTokens is random markup, a tag or a text each, without the tags html, head and body.
func randomTokens(r *rand.Rand) []string {
	all := vocabularies()
	names := all[r.Intn(len(all))]
	texts := []string{"x", " ", "\n", "a b", " y", "&amp;", "\x00", "<!--c-->", "<![CDATA[d]]>", "<!doctype e>", "</", "<"}
	attrs := []string{"", "", "", "", " id=1", " type=hidden", " color=2", " encoding=text/html", " /"}
	var out []string
	for range 1 + r.Intn(30) {
		name := names[r.Intn(len(names))]
		switch r.Intn(6) {
		case 0, 1, 2:
			out = append(out, "<"+name+attrs[r.Intn(len(attrs))]+">")
		case 3, 4:
			out = append(out, "</"+name+">")
		default:
			out = append(out, texts[r.Intn(len(texts))])
		}
	}
	return out
}

func randomPart(r *rand.Rand) string { return strings.Join(randomTokens(r), "") }

// What stands in a body is what stands in a fragment of it.
func TestRandomBodiesAreParts(t *testing.T) {
	r := rand.New(rand.NewSource(12))
	for range 10000 {
		in := randomPart(r)
		if got, want := part(t, in, "body"), body(t, in); got != want {
			t.Fatalf("%q:\npart %s\npage %s", in, got, want)
		}
	}
}

// A tag without a name is no token: it parts a text for the lexer, but not for the tree.
func TestRandomTextsInParts(t *testing.T) {
	r := rand.New(rand.NewSource(13))
	for range 10000 {
		var whole, apart strings.Builder
		for _, word := range randomTokens(r) {
			switch {
			case isReadRaw(word):
			case word[0] == '<':
				whole.WriteString(word)
				apart.WriteString(word)
			default:
				whole.WriteString(word)
				apart.WriteString(strings.Join(strings.Split(word, ""), "</>"))
			}
		}
		if got, want := body(t, apart.String()), body(t, whole.String()); got != want {
			t.Fatalf("%q:\napart %s\nwhole %s", apart.String(), got, want)
		}
	}
}

// isReadRaw tells whether what stands in a word, or behind it, is read in a way in which such a tag is a text.
func isReadRaw(word string) bool {
	for _, name := range words("title style script textarea xmp plaintext &") {
		if strings.Contains(word, name) {
			return true
		}
	}
	return word == "<" || word == "</"
}

// Whatever the bytes, there is a tree, or one of two errors.
func TestRandomBytes(t *testing.T) {
	r := rand.New(rand.NewSource(14))
	contexts := words("div table tbody tr td caption colgroup select template form html head body title script plaintext svg")
	for range 1500 {
		var in []byte
		for range r.Intn(40) {
			in = append(in, randomPart(r)...)
			in = append(in, []string{"", "<html>", "<head>", "<body>", "</html>", "</body>", "</head>", "<frameset>", "\xff", "<"}[r.Intn(10)]...)
		}
		d, err := tree.Parse(in)
		again, errAgain := tree.Parse(in)
		if err != errAgain || err == api.OK && (!dom.Same(d, dom.Root, again, dom.Root) || d.Quirks != again.Quirks) {
			t.Fatalf("%q differs from itself", in)
		}
		switch {
		case err == api.OK:
			whole(t, string(in), d)
		case err != api.ErrDeep && err != api.ErrNodes || d != nil:
			t.Fatalf("%q: error %d", in, err)
		}
		context := contexts[r.Intn(len(contexts))]
		if d, n, err := tree.Part(in, context); err == api.OK {
			whole(t, string(in), d)
		} else if d != nil || n != 0 {
			t.Fatalf("%q: node %d beside an error", in, n)
		}
	}
}
