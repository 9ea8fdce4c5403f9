package token

import "slices"

// Attr is an attribute: its name, and its value.
type Attr struct {
	Name string
	Val  string
}

// Get is the value of the first attribute of a name.
func Get(list []Attr, name string) (string, bool) {
	at := place(list, name)
	if at < 0 {
		return "", false
	}
	return list[at].Val, true
}

// Set is attributes with one of them other, or one more.
func Set(list []Attr, name, val string) []Attr {
	out := slices.Clone(list)
	at := place(out, name)
	if at < 0 {
		return append(out, Attr{Name: name, Val: val})
	}
	out[at].Val = val
	return out
}

// place is where the first attribute of a name stands, below 0 if there is none.
func place(list []Attr, name string) int {
	return slices.IndexFunc(list, func(a Attr) bool { return a.Name == name })
}

// Without is attributes without those of a name.
func Without(list []Attr, name string) []Attr {
	var out []Attr
	for _, a := range list {
		if a.Name != name {
			out = append(out, a)
		}
	}
	return out
}

// Once is attributes without those whose name was there already.
func Once(list []Attr) []Attr {
	first := places(list)
	var out []Attr
	for i, a := range list {
		if first[a.Name] == i {
			out = append(out, a)
		}
	}
	return out
}

// Alike tells whether two lists are of one length, and each name of the first one has its value in the second one, too.
func Alike(a, b []Attr) bool {
	if len(a) != len(b) {
		return false
	}
	first := places(b)
	for _, x := range a {
		if at, found := first[x.Name]; !found || b[at].Val != x.Val {
			return false
		}
	}
	return true
}

// places is where each name stands first: a tag may have thousands of attributes, too many to search them for each of them.
func places(list []Attr) map[string]int {
	first := make(map[string]int, len(list))
	for i, a := range list {
		if _, found := first[a.Name]; !found {
			first[a.Name] = i
		}
	}
	return first
}
