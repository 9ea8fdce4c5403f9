package settle_test

import (
	"math/rand"
	"regexp"
	"slices"
	"strings"
	"testing"
	"unicode/utf8"

	"woodcut/dom"
	"woodcut/settle"
	"woodcut/token"
)

// A model of P13.1: for each element what may stand right beneath it, as words; texts and comments are words, too.
type model map[string][]string

const (
	wordText    = "#text"
	wordBlank   = "#blank"
	wordComment = "#comment"
	wordDoctype = "#doctype"
)

func newModel() model {
	inline := strings.Fields(wordText + " " + wordBlank + " " + wordComment + " " + runs + " " + runVoids)
	flow := append(strings.Fields(flows+" "+lines+" hr ol ul dl table"), inline...)
	m := model{"#page": {wordDoctype, "html"}, "html": {"head", "body"}, "head": strings.Fields(wordBlank + " " + wordComment + " meta link base title style")}
	m.set("title style", strings.Fields(wordText+" "+wordBlank))
	m.set("meta link base hr "+runVoids, nil)
	m.set("body li dt dd td th "+flows, flow)
	m.set(lines+" "+runs, inline)
	m.set("ol ul", []string{"li"})
	m.set("dl", []string{"dt", "dd"})
	m.set("table", strings.Fields(sections))
	m.set(sections, []string{"tr"})
	m.set("tr", strings.Fields(cells))
	return m
}

func (m model) set(names string, holds []string) {
	for _, name := range strings.Fields(names) {
		m[name] = holds
	}
}

var plainName = regexp.MustCompile(`^[a-z][a-z0-9_:-]*$`)

func clean(s string) bool { return !strings.ContainsAny(s, "\r\x00") && utf8.ValidString(s) }

// word is what a node is called in the model; nothing, if it can't stand anywhere.
func word(d *dom.Doc, n int) string {
	x := d.Nodes[n]
	switch {
	case x.Kind == dom.Text && clean(x.Data) && x.Data != "":
		if strings.Trim(x.Data, " \t\n\f") == "" {
			return wordBlank
		}
		return wordText
	case x.Kind == dom.Comment && clean(x.Data) && regexp.MustCompile(`^([^>-][^-]*)?$`).MatchString(x.Data):
		return wordComment
	case x.Kind == dom.Doctype && x.Name == "html" && x.Public+x.System == "":
		return wordDoctype
	case x.Kind == dom.Element && x.Space == dom.HTML:
		seen := map[string]bool{}
		for _, a := range x.Attrs {
			if !plainName.MatchString(a.Name) || !clean(a.Val) || seen[a.Name] {
				return ""
			}
			seen[a.Name] = true
		}
		return x.Name
	}
	return ""
}

// fits tells whether all beneath a node may stand there.
func (m model) fits(d *dom.Doc, n int, name string, link bool, depth int) bool {
	kids := d.Nodes[n].Kids
	for _, kid := range kids {
		w := word(d, kid)
		if w == "" || !slices.Contains(m[name], w) || depth > 150 || link && w == "a" || !m.fits(d, kid, w, link || w == "a", depth+1) {
			return false
		}
	}
	switch {
	case name == "#page" || name == "html":
		return len(kids) == 2 && word(d, kids[0]) == m[name][0] && word(d, kids[1]) == m[name][1]
	case name == "title" || name == "style":
		return len(kids) == 0 || len(kids) == 1 && (name == "title" || !strings.ContainsRune(d.Nodes[kids[0]].Data, '<'))
	case name == "pre" && len(kids) > 0:
		return d.Nodes[kids[0]].Data == "" || d.Nodes[kids[0]].Data[0] != '\n'
	}
	return true
}

func (m model) stable(d *dom.Doc) bool {
	return !d.Quirks && m.fits(d, dom.Root, "#page", false, 1)
}

// grown is a tree of the kind that is stable, of no more than some nodes.
func (m model) grown(r *rand.Rand, most int) *dom.Doc {
	h := newHand()
	for range r.Intn(5) {
		m.grow(h, r, h.head, most)
	}
	for len(h.Nodes) < most {
		m.grow(h, r, h.body, most)
	}
	return h.Doc
}

// grow lays one more node beneath another one, and some beneath that.
func (m model) grow(h hand, r *rand.Rand, up, most int) {
	name := h.Name(up)
	names := m[name]
	if len(names) == 0 || len(h.Nodes) > most || h.within(up) > 140 {
		return
	}
	w := names[r.Intn(len(names))]
	switch {
	case w == "a" && h.inLink(up):
	case name == "title" || name == "style":
		if len(h.Kids(up)) == 0 {
			h.put(up, text([]string{"a", "\n", "b > &amp; c\u00a0", "é\""}[r.Intn(4)]))
		}
	case w == wordText, w == wordBlank:
		h.growText(r, up, w == wordBlank)
	case w == wordComment:
		h.put(up, note([]string{"", "a", "!", "<a>\n", "&amp;é"}[r.Intn(5)]))
	default:
		n := h.put(up, element(w, attributes(r)...))
		for range r.Intn(4) {
			m.grow(h, r, n, most)
		}
	}
}

// growText lays a text, but not beside another one, for no page has two side by side.
func (h hand) growText(r *rand.Rand, up int, blank bool) {
	kids := h.Kids(up)
	if len(kids) > 0 && h.Kind(kids[len(kids)-1]) == dom.Text {
		return
	}
	s := []string{" ", "\n", "\t\f ", "\n\n"}[r.Intn(4)]
	if !blank {
		s = []string{"a", "&lt;<b>\"'", "\u00a0é\ufffd", "a -->", "\n\nb", "\x01\x7f", "</p>", " x "}[r.Intn(8)]
	}
	if h.Is(up, "pre") && len(kids) == 0 {
		s = strings.Trim(s, "\n") + "."
	}
	h.put(up, text(s))
}

func attributes(r *rand.Rand) []string {
	var list []string
	for _, name := range []string{"id", "a-b", "x:y_1", "href"} {
		if r.Intn(6) == 0 {
			list = append(list, name, []string{"", "a", "&<>\"'\n", "\u00a0\ufeff", "&amp;copy=1"}[r.Intn(5)])
		}
	}
	return list
}

// within is how many nodes a node stands beneath.
func (h hand) within(n int) int {
	deep := 0
	for ; n != dom.Root; n = h.Up(n) {
		deep++
	}
	return deep
}

func (h hand) inLink(n int) bool {
	for ; n != dom.Root; n = h.Up(n) {
		if h.Is(n, "a") {
			return true
		}
	}
	return false
}

// turn changes one thing of a tree, often to one that isn't stable.
func turn(r *rand.Rand, d *dom.Doc) {
	n := r.Intn(len(d.Nodes))
	x := &d.Nodes[n]
	names := strings.Fields(runs + " " + runVoids + " " + flows + " " + lines + " hr ol ul li dl dt dd table tr meta title style form svg " + sections + " " + cells)
	data := []string{"", "a", "\n", "-", ">", "<", "\r", "\x00", "\xff", " ", "b\u00a0"}
	switch r.Intn(8) {
	case 0:
		x.Name = names[r.Intn(len(names))]
	case 1:
		x.Data = data[r.Intn(len(data))]
	case 2:
		x.Attrs = append(x.Attrs, token.Attr{Name: []string{"", "a", "id", "A", "b,c", "0"}[r.Intn(6)], Val: data[r.Intn(len(data))]})
	case 3:
		x.Space = r.Intn(3)
	case 4:
		d.Put(r.Intn(len(d.Nodes)), n, dom.None)
	case 5:
		d.Out(n)
	case 6:
		if x.Kind != dom.Page && len(x.Kids) == 0 {
			x.Kind = []int{dom.Element, dom.Text, dom.Comment, dom.Doctype}[r.Intn(4)]
		}
	case 7:
		d.Quirks = r.Intn(3) == 0
	}
}

// P13.1
func TestRandomTreesAgainstAModel(t *testing.T) {
	r := newRandom(131)
	m := newModel()
	told := map[bool]int{}
	for range 20000 {
		d := m.grown(r, 5+r.Intn(40))
		for range r.Intn(3) {
			turn(r, d)
		}
		want := m.stable(d)
		told[want]++
		if got := settle.Stable(d); got != want {
			t.Fatalf("Stable is %v of %+v", got, d.Nodes)
		}
	}
	if told[true] < 3000 || told[false] < 3000 {
		t.Errorf("too few of one kind: %v", told)
	}
}
