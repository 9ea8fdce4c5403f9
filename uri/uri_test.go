package uri_test

import (
	"math/rand"
	"regexp"
	"strings"
	"testing"

	"woodcut/uri"
)

// P15.1

// show is a reference's parts, each in brackets if there is one.
func show(r uri.Ref) string {
	out := ""
	for _, p := range []struct {
		val string
		has bool
	}{{r.Scheme, r.HasScheme}, {r.Auth, r.HasAuth}, {r.Path, true}, {r.Query, r.HasQuery}, {r.Frag, r.HasFrag}} {
		switch {
		case p.has:
			out += "[" + p.val + "]"
		case p.val != "":
			out += "!" + p.val
		default:
			out += "-"
		}
	}
	return out
}

func TestParse(t *testing.T) {
	for in, want := range map[string]string{
		"":                             "--[]--",
		"a":                            "--[a]--",
		"/":                            "--[/]--",
		"http://u@h:8/a/b?c#d":         "[http][u@h:8][/a/b][c][d]",
		"http://h":                     "[http][h][]--",
		"http://h?q":                   "[http][h][][q]-",
		"http://h#f":                   "[http][h][]-[f]",
		"//h/p":                        "-[h][/p]--",
		"//h":                          "-[h][]--",
		"//":                           "-[][]--",
		"///":                          "-[][/]--",
		"////a":                        "-[][//a]--",
		"/a//b":                        "--[/a//b]--",
		"a//b":                         "--[a//b]--",
		"x:":                           "[x]-[]--",
		"x:y":                          "[x]-[y]--",
		"x:/y":                         "[x]-[/y]--",
		"x://":                         "[x][][]--",
		"x:y:z":                        "[x]-[y:z]--",
		"x:y//z":                       "[x]-[y//z]--",
		"X:Y":                          "[X]-[Y]--",
		"a1+-.Z:b":                     "[a1+-.Z]-[b]--",
		"1a:b":                         "--[1a:b]--",
		"+a:b":                         "--[+a:b]--",
		"-a:b":                         "--[-a:b]--",
		".a:b":                         "--[.a:b]--",
		":a":                           "--[:a]--",
		"://a":                         "--[://a]--",
		"a_b:c":                        "--[a_b:c]--",
		"a b:c":                        "--[a b:c]--",
		" a:b":                         "--[ a:b]--",
		"a/b:c":                        "--[a/b:c]--",
		"a%41:c":                       "--[a%41:c]--",
		"é:c":                          "--[é:c]--",
		"aé:c":                         "--[aé:c]--",
		"a\xff:c":                      "--[a\xff:c]--",
		"a\x00:c":                      "--[a\x00:c]--",
		"a@:c":                         "--[a@:c]--",
		"a[:c":                         "--[a[:c]--",
		"ab/:c":                        "--[ab/:c]--",
		"?":                            "--[][]-",
		"#":                            "--[]-[]",
		"?#":                           "--[][][]",
		"#?":                           "--[]-[?]",
		"a?b?c":                        "--[a][b?c]-",
		"a#b#c":                        "--[a]-[b#c]",
		"a#b?c":                        "--[a]-[b?c]",
		"a?b#c?d#e":                    "--[a][b][c?d#e]",
		"?a:b":                         "--[][a:b]-",
		"#a:b":                         "--[]-[a:b]",
		"a?b:c":                        "--[a][b:c]-",
		"a?//b":                        "--[a][//b]-",
		"?//b/c":                       "--[][//b/c]-",
		"//a?b/c":                      "-[a][][b/c]-",
		"//a#b/c":                      "-[a][]-[b/c]",
		"//a:b/c:d":                    "-[a:b][/c:d]--",
		"mailto:a@b":                   "[mailto]-[a@b]--",
		"data:,a?b#c":                  "[data]-[,a][b][c]",
		"javascript:x//y":              "[javascript]-[x//y]--",
		"  ":                           "--[  ]--",
		"a\\b":                         "--[a\\b]--",
		"\\\\h/p":                      "--[\\\\h/p]--",
		"%23a%3Fb%3A//c":               "--[%23a%3Fb%3A//c]--",
		"\n#\n":                        "--[\n]-[\n]",
		"http://h/a?b=c&d=e#f/g?h#i:j": "[http][h][/a][b=c&d=e][f/g?h#i:j]",
	} {
		if got := show(uri.Parse(in)); got != want {
			t.Errorf("%q: %q, want %q", in, got, want)
		}
		if got := uri.Parse(in).Text(); got != in {
			t.Errorf("%q: Text is %q", in, got)
		}
	}
}

func TestText(t *testing.T) {
	for want, r := range map[string]uri.Ref{
		"":            {},
		"p":           {Path: "p"},
		"s:":          {Scheme: "s", HasScheme: true},
		":":           {HasScheme: true},
		"//":          {HasAuth: true},
		"?":           {HasQuery: true},
		"#":           {HasFrag: true},
		"://?#":       {HasScheme: true, HasAuth: true, HasQuery: true, HasFrag: true},
		"//ab":        {Auth: "a", HasAuth: true, Path: "b"},
		"s:p#f":       {Scheme: "s", HasScheme: true, Path: "p", Frag: "f", HasFrag: true},
		"s://a/p?q#f": {Scheme: "s", HasScheme: true, Auth: "a", HasAuth: true, Path: "/p", Query: "q", HasQuery: true, Frag: "f", HasFrag: true},
		"x":           {Scheme: "s", Auth: "a", Path: "x", Query: "q", Frag: "f"}, // what isn't there isn't told
		"a b?é#%":     {Path: "a b", Query: "é", HasQuery: true, Frag: "%", HasFrag: true},
	} {
		if got := r.Text(); got != want {
			t.Errorf("%q, want %q", got, want)
		}
	}
}

// random is a text of some signs.
func random(r *rand.Rand, signs string, most int) string {
	all := strings.Split(signs, " ")
	out := ""
	for range r.Intn(most + 1) {
		out += all[r.Intn(len(all))]
	}
	return out
}

// The standard's own rule, with what it says of schemes.
func TestParseAgainstTheStandard(t *testing.T) {
	rule := regexp.MustCompile(`^(([A-Za-z][A-Za-z0-9+.-]*):)?(//([^/?#]*))?([^?#]*)(\?([^#]*))?(#((?s).*))?$`)
	part := func(m []string, all, val int) string {
		if m[all] == "" {
			return "-"
		}
		return "[" + m[val] + "]"
	}
	r := rand.New(rand.NewSource(151))
	for range 50000 {
		in := random(r, "a Z 0 : : / / // ? # . + - _ % @ é \n 0a", 9)
		m := rule.FindStringSubmatch(in)
		want := part(m, 1, 2) + part(m, 3, 4) + "[" + m[5] + "]" + part(m, 6, 7) + part(m, 8, 9)
		if got := show(uri.Parse(in)); got != want {
			t.Fatalf("%q: %q, want %q", in, got, want)
		}
		if got := uri.Parse(in).Text(); got != in {
			t.Fatalf("%q: Text is %q", in, got)
		}
	}
}
