package uri_test

import (
	"math/rand"
	"strings"
	"testing"

	"woodcut/uri"
)

// P15.2

func TestDots(t *testing.T) {
	for in, want := range map[string]string{
		"":                     "",
		"a":                    "a",
		"/":                    "/",
		"//":                   "//",
		"///":                  "///",
		"a/":                   "a/",
		"/a":                   "/a",
		"a/b/c":                "a/b/c",
		"/a/b/c/./../../g":     "/a/g",
		"mid/content=5/../6":   "mid/6",
		".":                    "",
		"..":                   "",
		"./":                   "",
		"../":                  "",
		"./.":                  "",
		"../..":                "",
		"./a":                  "a",
		"../a":                 "a",
		"../../a":              "a",
		"./../a":               "a",
		".././a":               "a",
		"/.":                   "/",
		"/..":                  "/",
		"/./":                  "/",
		"/../":                 "/",
		"/./a":                 "/a",
		"/../a":                "/a",
		"/../../a":             "/a",
		"/a/.":                 "/a/",
		"/a/..":                "/",
		"/a/./":                "/a/",
		"/a/../":               "/",
		"/a/b/..":              "/a/",
		"/a/b/../":             "/a/",
		"/a/b/.":               "/a/b/",
		"/a/b/../..":           "/",
		"/a/b/../../..":        "/",
		"/a/b/../../../c":      "/c",
		"a/.":                  "a/",
		"a/..":                 "/",
		"a/../b":               "/b",
		"a/./b":                "a/b",
		"a/b/..":               "a/",
		"a/b/../..":            "/",
		"a/b/../../c":          "/c",
		"a/../..":              "/",
		"a/../../b":            "/b",
		"../a/..":              "/",
		"./a/../b":             "/b",
		"...":                  "...",
		".../..":               "/",
		"/...":                 "/...",
		"/.../":                "/.../",
		".a":                   ".a",
		"..a":                  "..a",
		"a.":                   "a.",
		"a..":                  "a..",
		"/.a/..b/c./d..":       "/.a/..b/c./d..",
		"/a/..b":               "/a/..b",
		"a//..":                "a/",
		"a//../b":              "a/b",
		"a//b":                 "a//b",
		"//..":                 "/",
		"//../a":               "/a",
		"///../a":              "//a",
		"//./a":                "//a",
		"/.//a":                "//a",
		"/..//a":               "//a",
		".//a":                 "/a",
		"..//a":                "/a",
		"/%2e%2E/a":            "/%2e%2E/a",
		"/a\\..\\b":            "/a\\..\\b",
		"/ ./ ../a":            "/ ./ ../a",
		"/é/../\xff":           "/\xff",
		"?../#./":              "?../#./",
		"a/b/c/d/../../../e/f": "a/e/f",
	} {
		if got := uri.Dots(in); got != want {
			t.Errorf("%q: %q, want %q", in, got, want)
		}
	}
}

// plainDots is Dots, rule by rule as the document has them.
func plainDots(in string) string {
	out := ""
	for in != "" {
		switch {
		case strings.HasPrefix(in, "../"):
			in = in[3:]
		case strings.HasPrefix(in, "./"):
			in = in[2:]
		case strings.HasPrefix(in, "/./"):
			in = "/" + in[3:]
		case in == "/.":
			in = "/"
		case strings.HasPrefix(in, "/../"), in == "/..":
			in = "/" + strings.TrimPrefix(in[3:], "/")
			if at := strings.LastIndex(out, "/"); at >= 0 {
				out = out[:at]
			} else {
				out = ""
			}
		case in == ".", in == "..":
			in = ""
		default:
			end := len(in)
			if at := strings.Index(in[1:], "/"); at >= 0 {
				end = at + 1
			}
			out, in = out+in[:end], in[end:]
		}
	}
	return out
}

func TestDotsAgainstTheRules(t *testing.T) {
	r := rand.New(rand.NewSource(152))
	for range 100000 {
		in := random(r, ". . .. / / /. /.. a b. .c ?", 10)
		if got, want := uri.Dots(in), plainDots(in); got != want {
			t.Fatalf("%q: %q, want %q", in, got, want)
		}
	}
}

func TestDotsOfLongPaths(t *testing.T) {
	const many = 1 << 19
	up, down := strings.Repeat("/..", many), strings.Repeat("/a", many)
	for _, c := range []struct{ in, want string }{
		{down + up, "/"},
		{up + down, down},
		{strings.Repeat("../", many), ""},
		{strings.Repeat("a", many) + "/..", "/"},
		{"/" + strings.Repeat("a", many) + strings.Repeat("/b/..", many) + "/c", "/" + strings.Repeat("a", many) + "/c"},
	} {
		if got := uri.Dots(c.in); got != c.want {
			t.Errorf("%.20q..: %.20q.., want %.20q..", c.in, got, c.want)
		}
	}
}

// P15.3

// The examples of the standard, normal ones and odd ones.
func TestResolveAsTheStandardDoes(t *testing.T) {
	base := uri.Parse("http://a/b/c/d;p?q")
	for in, want := range map[string]string{
		"g:h": "g:h", "g": "http://a/b/c/g", "./g": "http://a/b/c/g", "g/": "http://a/b/c/g/", "/g": "http://a/g", "//g": "http://g",
		"?y": "http://a/b/c/d;p?y", "g?y": "http://a/b/c/g?y", "#s": "http://a/b/c/d;p?q#s", "g#s": "http://a/b/c/g#s", "g?y#s": "http://a/b/c/g?y#s",
		";x": "http://a/b/c/;x", "g;x": "http://a/b/c/g;x", "g;x?y#s": "http://a/b/c/g;x?y#s", "": "http://a/b/c/d;p?q", ".": "http://a/b/c/", "./": "http://a/b/c/",
		"..": "http://a/b/", "../": "http://a/b/", "../g": "http://a/b/g", "../..": "http://a/", "../../": "http://a/", "../../g": "http://a/g",
		"../../../g": "http://a/g", "../../../../g": "http://a/g", "/./g": "http://a/g", "/../g": "http://a/g", "g.": "http://a/b/c/g.", ".g": "http://a/b/c/.g",
		"g..": "http://a/b/c/g..", "..g": "http://a/b/c/..g", "./../g": "http://a/b/g", "./g/.": "http://a/b/c/g/", "g/./h": "http://a/b/c/g/h", "g/../h": "http://a/b/c/h",
		"g;x=1/./y": "http://a/b/c/g;x=1/y", "g;x=1/../y": "http://a/b/c/y", "g?y/./x": "http://a/b/c/g?y/./x", "g?y/../x": "http://a/b/c/g?y/../x",
		"g#s/./x": "http://a/b/c/g#s/./x", "g#s/../x": "http://a/b/c/g#s/../x", "http:g": "http:g",
	} {
		if got := uri.Resolve(base, uri.Parse(in)).Text(); got != want {
			t.Errorf("%q: %q, want %q", in, got, want)
		}
	}
}

func TestResolve(t *testing.T) {
	for _, c := range []struct{ base, in, want string }{
		{"", "", ""},
		{"", "a", "a"},
		{"", "../a", "a"},
		{"", "/a/../b", "/b"},
		{"", "//a", "//a"},
		{"", "?", "?"},
		{"", "#", "#"},
		{"s://h/p?q#f", "", "s://h/p?q"},
		{"s://h/p?q#f", "#", "s://h/p?q#"},
		{"s://h/p?q#f", "?", "s://h/p?"},
		{"s://h/p?q#f", "?#", "s://h/p?#"},
		{"s://h/p?q#f", "x", "s://h/x"},
		{"s://h/p?q#f", "/x", "s://h/x"},
		{"s://h/p?q#f", "//x", "s://x"},
		{"s://h/p?q#f", "t:x", "t:x"},
		{"s://h/p?q#f", "t:", "t:"},
		{"s://h/p?q#f", "s:x", "s:x"},
		{"s://h/p?q#f", "t:a/../b?y#z", "t:/b?y#z"},
		{"s://h/p?q#f", "t://g/a/../b?y#z", "t://g/b?y#z"},
		{"s://h/p?q#f", "t://g", "t://g"},
		{"s://h/p?q#f", "//g/a/./../b?y#z", "s://g/b?y#z"},
		{"s://h/p?q#f", "///a/..", "s:///"},
		{"s://h/p?", "", "s://h/p?"},
		{"s://h", "a", "s://h/a"},
		{"s://h", "../a", "s://h/a"},
		{"s://h", ".", "s://h/"},
		{"s://h", "", "s://h"},
		{"s://h?q", "", "s://h?q"},
		{"s://h?q", "a", "s://h/a"},
		{"s://h", "?q", "s://h?q"},
		{"s://h", "/", "s://h/"},
		{"//h", "a", "//h/a"},
		{"//", "a", "///a"},
		{"s:", "a", "s:a"},
		{"s:", "./a/..", "s:/"},
		{"s:p", "a", "s:a"},
		{"s:p/q", "a", "s:p/a"},
		{"s:p/q", "../a", "s:/a"},
		{"s:p/q", "/a", "s:/a"},
		{"p", "a", "a"},
		{"p/q/", "a", "p/q/a"},
		{"p/q/", "..", "p/"},
		{"p/../q", "", "p/../q"},
		{"p/../q", "#f", "p/../q#f"},
		{"p/../q", "?y", "p/../q?y"},
		{"p/../q", "a", "/a"},
		{"./q", "a", "a"},
		{"//h/p/./q", "", "//h/p/./q"},
		{"//h/p/./q", "a", "//h/p/a"},
		{"a?b/c", "d", "d"},
		{"a/b?c/d#e/f", "g", "a/g"},
		{"x", "a/./b//../c", "a/b/c"},
		{"%2F", "a", "a"},
		{"/a%2Fb", "../c", "/c"},
		{"/é/\xff", "é?\xff#é", "/é/é?\xff#é"},
	} {
		if got := uri.Resolve(uri.Parse(c.base), uri.Parse(c.in)).Text(); got != c.want {
			t.Errorf("%q in %q: %q, want %q", c.in, c.base, got, c.want)
		}
	}
}

// Each part of the answer has its own sign of being there.
func TestResolveParts(t *testing.T) {
	base := uri.Parse("s://h/p?q#f")
	for in, want := range map[string]string{
		"":        "[s][h][/p][q]-",
		"?":       "[s][h][/p][]-",
		"#":       "[s][h][/p][q][]",
		"x":       "[s][h][/x]--",
		"x?y":     "[s][h][/x][y]-",
		"//g":     "[s][g][]--",
		"//":      "[s][][]--",
		"t:":      "[t]-[]--",
		"t:?y#z":  "[t]-[][y][z]",
		"/../#f2": "[s][h][/]-[f2]",
	} {
		if got := show(uri.Resolve(base, uri.Parse(in))); got != want {
			t.Errorf("%q: %q, want %q", in, got, want)
		}
	}
	if got := show(uri.Resolve(uri.Parse("p?q"), uri.Parse("//g?y"))); got != "-[g][][y]-" {
		t.Errorf("with no scheme: %q", got)
	}
	if got := show(uri.Resolve(uri.Parse("s:p"), uri.Parse("x"))); got != "[s]-[x]--" {
		t.Errorf("with no place of its own: %q", got)
	}
	noStroke := uri.Ref{Auth: "h", HasAuth: true, Path: "p"}
	if got := show(uri.Resolve(noStroke, uri.Ref{Path: "x"})); got != "-[h][x]--" {
		t.Errorf("with a path that lacks its stroke: %q", got)
	}
}

// plainResolve is Resolve, word for word as the document has it.
func plainResolve(base, r uri.Ref) uri.Ref {
	out := uri.Ref{Frag: r.Frag, HasFrag: r.HasFrag, Query: r.Query, HasQuery: r.HasQuery}
	if r.HasScheme || r.HasAuth {
		out.Scheme, out.HasScheme = r.Scheme, r.HasScheme
		out.Auth, out.HasAuth = r.Auth, r.HasAuth
		out.Path = plainDots(r.Path)
		if !r.HasScheme {
			out.Scheme, out.HasScheme = base.Scheme, base.HasScheme
		}
		return out
	}
	out.Scheme, out.HasScheme = base.Scheme, base.HasScheme
	out.Auth, out.HasAuth = base.Auth, base.HasAuth
	folder := strings.Join(strings.SplitAfter(base.Path, "/")[:strings.Count(base.Path, "/")], "")
	if base.HasAuth && base.Path == "" {
		folder = "/"
	}
	switch {
	case r.Path == "" && !r.HasQuery:
		out.Path, out.Query, out.HasQuery = base.Path, base.Query, base.HasQuery
	case r.Path == "":
		out.Path = base.Path
	case r.Path[0] == '/':
		out.Path = plainDots(r.Path)
	default:
		out.Path = plainDots(folder + r.Path)
	}
	return out
}

func TestResolveAgainstTheRules(t *testing.T) {
	r := rand.New(rand.NewSource(153))
	const signs = "a b . .. / / // s: ? # ../ /./"
	for range 100000 {
		base, in := uri.Parse(random(r, signs, 8)), uri.Parse(random(r, signs, 6))
		if got, want := uri.Resolve(base, in), plainResolve(base, in); got != want {
			t.Fatalf("%q in %q: %q, want %q", in.Text(), base.Text(), show(got), show(want))
		}
	}
}
