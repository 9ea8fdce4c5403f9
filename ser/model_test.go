package ser_test

import (
	"math/rand"
	"strings"
	"testing"

	"woodcut/dom"
	"woodcut/ser"
)

// model is Inner, word for word as the document says it.
func model(d *dom.Doc, n int) string {
	if d.Is(n, strings.Fields(voids)...) {
		return ""
	}
	of := n
	if d.Is(n, "template") {
		of = n + 1
	}
	out := ""
	for _, kid := range d.Kids(of) {
		x := d.Nodes[kid]
		switch x.Kind {
		case dom.Element:
			out += "<" + x.Name
			for _, a := range x.Attrs {
				out += " " + a.Name + "=\"" + written(a.Val, true) + "\""
			}
			out += ">"
			if !d.Is(kid, strings.Fields(voids)...) {
				out += model(d, kid) + "</" + x.Name + ">"
			}
		case dom.Text:
			if d.Is(d.Up(kid), strings.Fields(raws)...) {
				out += x.Data
			} else {
				out += written(x.Data, false)
			}
		case dom.Comment:
			out += "<!--" + x.Data + "-->"
		case dom.Doctype:
			out += "<!DOCTYPE " + x.Name + ">"
		}
	}
	return out
}

func TestRandomTreesAgainstAModel(t *testing.T) {
	r := rand.New(rand.NewSource(102))
	names := strings.Fields("p b template template script style br img title plaintext")
	data := []string{"a", "<", "&", "\"", "\u00a0", "\xc2", "-->", ""}
	some := func() string { return data[r.Intn(len(data))] + data[r.Intn(len(data))] }
	for range 2000 {
		d := dom.New()
		for range 30 {
			n := element(names[r.Intn(len(names))])
			n.Space = max(0, r.Intn(6)-3)
			for range r.Intn(3) {
				n.Attrs = append(n.Attrs, element("", some(), some()).Attrs...)
			}
			n.Kind = []int{dom.Element, dom.Element, dom.Element, dom.Text, dom.Text, dom.Comment, dom.Doctype}[r.Intn(7)]
			n.Data = some()
			// A place may be refused: such nodes, and what is put beneath them, stand nowhere.
			at := d.Add(n)
			d.Put(r.Intn(len(d.Nodes)), at, dom.None)
		}
		for n := range d.Nodes {
			if got, want := string(ser.Inner(d, n)), model(d, n); got != want {
				t.Fatalf("Inner(%d) is %q, want %q, of %v", n, got, want, d.Nodes)
			}
		}
	}
}
