package dom_test

import (
	"math/rand"
	"slices"
	"testing"

	"woodcut/api"
	"woodcut/dom"
)

// A model of a tree, as plain as the document's words: only who is above whom, and in which order, with all else looked up anew each time.
type model struct {
	kinds []int
	data  []string
	order [][]int // the kids of each node
	inner []int
}

func (m *model) add(kind int, data string, template bool) int {
	at := len(m.kinds)
	m.kinds, m.data, m.order, m.inner = append(m.kinds, kind), append(m.data, data), append(m.order, nil), append(m.inner, dom.None)
	if template {
		m.inner[at] = m.add(dom.Page, "", false)
	}
	return at
}

func (m *model) has(n int) bool { return n >= 0 && n < len(m.kinds) }

func (m *model) up(n int) int {
	for up, kids := range m.order {
		if slices.Contains(kids, n) {
			return up
		}
	}
	return dom.None
}

// beneath is a node, its kids and contents, and all beneath them.
func (m *model) beneath(n int) []int {
	all := []int{n}
	for _, kid := range m.order[n] {
		all = append(all, m.beneath(kid)...)
	}
	if m.inner[n] != dom.None {
		all = append(all, m.beneath(m.inner[n])...)
	}
	return all
}

func (m *model) out(n int) {
	for up, kids := range m.order {
		m.order[up] = slices.DeleteFunc(slices.Clone(kids), func(k int) bool { return k == n })
	}
}

func (m *model) put(up, n, before int) api.Errno {
	if !m.has(up) || !m.has(n) || m.kinds[n] == dom.Page || before == n || m.kinds[up] > dom.Element || slices.Contains(m.beneath(n), up) {
		return api.ErrArg
	}
	if before != dom.None && !slices.Contains(m.order[up], before) {
		return api.ErrNone
	}
	m.out(n)
	at := len(m.order[up])
	if before != dom.None {
		at = slices.Index(m.order[up], before)
	}
	m.order[up] = slices.Insert(slices.Clone(m.order[up]), at, n)
	return api.OK
}

func (m *model) say(up int, s string, before int) api.Errno {
	if !m.has(up) || s == "" {
		return api.ErrArg
	}
	if before != dom.None && !slices.Contains(m.order[up], before) {
		return api.ErrNone
	}
	ahead := dom.None
	for _, kid := range m.order[up] {
		if kid == before {
			break
		}
		ahead = kid
	}
	if ahead != dom.None && m.kinds[ahead] == dom.Text {
		m.data[ahead] += s
		return api.OK
	}
	return m.put(up, m.add(dom.Text, s, false), before)
}

func (m *model) move(from, to int) api.Errno {
	if !m.has(from) || !m.has(to) || from == to {
		return api.ErrArg
	}
	for len(m.order[from]) > 0 {
		if err := m.put(to, m.order[from][0], dom.None); err != api.OK {
			return err
		}
	}
	return api.OK
}

// walk is what Walk is to show.
func (m *model) walk(n, depth int) []sight {
	var out []sight
	of := n
	if m.inner[n] != dom.None {
		of = m.inner[n]
	}
	for _, kid := range m.order[of] {
		out = append(append(out, sight{kid, depth}), m.walk(kid, depth+1)...)
	}
	return out
}

func (m *model) holds(t *testing.T, d *dom.Doc) {
	t.Helper()
	if len(d.Nodes) != len(m.kinds) {
		t.Fatalf("%d nodes, want %d", len(d.Nodes), len(m.kinds))
	}
	for n := range m.kinds {
		if d.Kind(n) != m.kinds[n] || d.Nodes[n].Data != m.data[n] || d.Up(n) != m.up(n) || !slices.Equal(d.Kids(n), m.order[n]) || d.Nodes[n].Inner != m.inner[n] {
			t.Fatalf("node %d is %v", n, d.Nodes[n])
		}
		if got, want := walked(d, n), m.walk(n, 1); !slices.Equal(got, want) {
			t.Fatalf("Walk(%d) shows %v, want %v", n, got, want)
		}
	}
}

func TestTreesAgainstAModel(t *testing.T) {
	r := rand.New(rand.NewSource(8))
	for range 300 {
		d, m := dom.New(), &model{}
		m.add(dom.Page, "", false)
		some := func() int { return r.Intn(len(d.Nodes)+3) - 2 }
		for range 60 {
			a, b, c := some(), some(), some()
			if r.Intn(2) == 0 {
				c = dom.None
			}
			var got, want api.Errno
			switch r.Intn(9) {
			case 0:
				d.Add(text("t"))
				m.add(dom.Text, "t", false)
			case 1:
				d.Add(element("template"))
				m.add(dom.Element, "", true)
			case 2:
				d.Add(element("p"))
				m.add(dom.Element, "", false)
			case 3:
				d.Out(a)
				m.out(a)
			case 4:
				s := "s"[:min(1, r.Intn(5))]
				got, want = d.Say(a, s, c), m.say(a, s, c)
			case 5:
				got, want = d.Move(a, b), m.move(a, b)
			default:
				got, want = d.Put(a, b, c), m.put(a, b, c)
			}
			if got != want {
				t.Fatalf("error %d, want %d", got, want)
			}
			m.holds(t, d)
			if d.Kind(a) > dom.Page {
				e := dom.New()
				if !dom.Same(d, a, e, e.Take(d, a)) {
					t.Fatal("Take")
				}
			}
		}
	}
}
