package find_test

import (
	"math/rand"
	"slices"
	"strings"
	"testing"

	"woodcut/dom"
	"woodcut/find"
)

// model is what is found in a tree, word for word as the document says it, all nodes in a list of their own.
type model struct {
	d   *dom.Doc
	all []int
}

// under is a model of all that stands beneath a node.
func under(d *dom.Doc, n int) model {
	m := model{d: d}
	m.lay(n)
	return m
}

func (m *model) lay(n int) {
	if m.d.Nodes[n].Inner != dom.None {
		n = m.d.Nodes[n].Inner
	}
	for _, kid := range m.d.Nodes[n].Kids {
		m.all = append(m.all, kid)
		m.lay(kid)
	}
}

// attr is the first attribute of a name, if there is one.
func (m model) attr(n int, name string) (string, bool) {
	for _, a := range m.d.Nodes[n].Attrs {
		if a.Name == name {
			return a.Val, true
		}
	}
	return "", false
}

func (m model) links() string {
	var out []string
	for _, n := range m.all {
		for _, a := range m.d.Nodes[n].Attrs {
			if m.d.Nodes[n].Kind == dom.Element && m.d.Nodes[n].Space == dom.HTML && (a.Name == "href" || a.Name == "src") {
				out = append(out, m.d.Nodes[n].Name+" "+a.Name+"="+a.Val)
			}
		}
	}
	return strings.Join(out, "|")
}

func (m model) anchors() string {
	var out []string
	for _, n := range m.all {
		if m.d.Nodes[n].Kind != dom.Element {
			continue
		}
		id, _ := m.attr(n, "id")
		name, _ := m.attr(n, "name")
		if m.d.Nodes[n].Space != dom.HTML || m.d.Nodes[n].Name != "a" {
			name = ""
		}
		out = append(out, id, name)
	}
	slices.Sort(out)
	return strings.Join(slices.DeleteFunc(slices.Compact(out), func(s string) bool { return s == "" }), "|")
}

func (m model) first(name string) int {
	for _, n := range m.all {
		if m.d.Is(n, name) {
			return n
		}
	}
	return dom.None
}

func (m model) title() (string, bool) {
	n := m.first("title")
	if n == dom.None {
		return "", false
	}
	return strings.Trim(m.d.Words(n), "\t\n\f\r "), true
}

func (m model) metas() string {
	said := map[string]string{}
	for _, n := range slices.Backward(m.all) {
		content, found := m.attr(n, "content")
		name, _ := m.attr(n, "name")
		if name = strings.ToLower(strings.Trim(name, "\t\n\f\r ")); m.d.Is(n, "meta") && found && name != "" {
			said[name] = content
		}
	}
	var out []string
	for name, content := range said {
		out = append(out, name+"="+content)
	}
	slices.SortFunc(out, func(a, b string) int { return strings.Compare(a[:strings.Index(a, "=")], b[:strings.Index(b, "=")]) })
	return strings.Join(out, "|")
}

func randomPage(r *rand.Rand) string {
	pick := func(words string) string {
		all := strings.Fields(words)
		return all[r.Intn(len(all))]
	}
	page := ""
	for range r.Intn(40) {
		switch r.Intn(5) {
		case 0:
			page += "</" + pick("a p div svg template title b table math") + ">"
		case 1:
			page += pick("x &nbsp; <!--c--> y")
		default:
			page += "<" + pick("a a p div svg template title meta meta img b table td math mi link")
			for range r.Intn(4) {
				page += " " + pick("href src id name content class NAME Href") + "=" + pick("a b A '' ' a' '#b' é")
			}
			page += ">"
		}
	}
	return page
}

func TestRandomPagesAgainstAModel(t *testing.T) {
	r := rand.New(rand.NewSource(141))
	for range 20000 {
		in := randomPage(r)
		d := parsed(t, in)
		m := under(d, dom.Root)
		if got := links(d); got != m.links() {
			t.Fatalf("%q: the links are %s, want %s", in, got, m.links())
		}
		if got := anchors(t, d); got != m.anchors() {
			t.Fatalf("%q: the anchors are %s, want %s", in, got, m.anchors())
		}
		got, ok := find.Title(d)
		if want, is := m.title(); got != want || ok != is {
			t.Fatalf("%q: the title is %q, %v, want %q, %v", in, got, ok, want, is)
		}
		for n := range d.Nodes {
			m := under(d, n)
			if got := metas(t, d, n); got != m.metas() {
				t.Fatalf("%q: Metas(%d) are %s, want %s", in, n, got, m.metas())
			}
			for _, name := range []string{"a", "title", "meta", "p", "svg"} {
				if got := find.First(d, n, name); got != m.first(name) {
					t.Fatalf("%q: First(%d, %s) is %d, want %d", in, n, name, got, m.first(name))
				}
			}
		}
	}
}
