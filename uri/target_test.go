package uri_test

import (
	"fmt"
	"math/rand"
	"strings"
	"testing"

	"woodcut/api"
	"woodcut/uri"
)

// P15.4

func TestDecode(t *testing.T) {
	for in, want := range map[string]string{
		"":                   "",
		"a":                  "a",
		"%41%2f%c3%A9":       "A/é",
		"%2541":              "%41",
		"%25%34%31":          "%41",
		"a%20b%20":           "a b ",
		"%00%ff%FF":          "\x00\xff\xff",
		"+ é\xff\x00?#":      "+ é\xff\x00?#",
		"%aF%Fa":             "\xaf\xfa",
		"%410":               "A0",
		"%4100%":             "!",
		"%":                  "!",
		"%%":                 "!",
		"%%41":               "!",
		"%%4":                "!",
		"%4":                 "!",
		"%4%41":              "!",
		"%4g":                "!",
		"%g4":                "!",
		"%+4":                "!",
		"% 4":                "!",
		"%4 ":                "!",
		"%-1":                "!",
		"%0x":                "!",
		"%\xb41":             "!",
		"%4\xb1":             "!",
		"%\uff14\uff11":      "!",
		"a%":                 "!",
		"a%4":                "!",
		"%41%":               "!",
		"%41%4":              "!",
		"%4:%41":             "!",
		"%@1":                "!",
		"%1`":                "!",
		"%G0":                "!",
		"%1/":                "!",
		"%41%42%43%zz%44":    "!",
		"a%2Fb%2fc":          "a/b/c",
		"%e2%82%ac\u20ac%e2": "\u20ac\u20ac\xe2",
	} {
		got, err := uri.Decode(in)
		if want == "!" && (got != "" || err != api.ErrForm) || want != "!" && (got != want || err != api.OK) {
			t.Errorf("%q: %q, error %d, want %q", in, got, err, want)
		}
	}
}

func TestEncode(t *testing.T) {
	for _, c := range []struct{ in, kept, all string }{
		{"", "", ""},
		{"a/ é~", "a/%20%C3%A9~", "a%2F%20%C3%A9~"},
		{"/", "/", "%2F"},
		{"//a//", "//a//", "%2F%2Fa%2F%2F"},
		{"%41", "%2541", "%2541"},
		{"AZaz09-._~", "AZaz09-._~", "AZaz09-._~"},
		{"@[`{:.", "%40%5B%60%7B%3A.", "%40%5B%60%7B%3A."},
		{"?#&+=;,!$'()*", "%3F%23%26%2B%3D%3B%2C%21%24%27%28%29%2A", "%3F%23%26%2B%3D%3B%2C%21%24%27%28%29%2A"},
		{"\\|^<>\"", "%5C%7C%5E%3C%3E%22", "%5C%7C%5E%3C%3E%22"},
		{"\x00\x7f\x80\xff", "%00%7F%80%FF", "%00%7F%80%FF"},
	} {
		if got := uri.Encode(c.in, true); got != c.kept {
			t.Errorf("%q, with strokes: %q, want %q", c.in, got, c.kept)
		}
		if got := uri.Encode(c.in, false); got != c.all {
			t.Errorf("%q: %q, want %q", c.in, got, c.all)
		}
	}
}

func TestEachByte(t *testing.T) {
	const kept = "ABCDEFGHIJKLMNOPQRSTUVWXYZabcdefghijklmnopqrstuvwxyz0123456789-._~"
	for c := range 256 {
		in := string([]byte{byte(c)})
		number := fmt.Sprintf("%%%02X", c)
		for _, strokes := range []bool{false, true} {
			want := number
			if strings.Contains(kept, in) || strokes && in == "/" {
				want = in
			}
			if got := uri.Encode(in, strokes); got != want {
				t.Errorf("%q, %v: %q, want %q", in, strokes, got, want)
			}
		}
		for _, s := range []string{number, strings.ToLower(number)} {
			if got, err := uri.Decode("a" + s + "b"); got != "a"+in+"b" || err != api.OK {
				t.Errorf("%q: %q, error %d", s, got, err)
			}
		}
		for d := range 256 {
			_, err := uri.Decode("%" + in + string([]byte{byte(d)}))
			const hex = "0123456789abcdefABCDEF"
			if right := strings.IndexByte(hex, byte(c)) >= 0 && strings.IndexByte(hex, byte(d)) >= 0; right != (err == api.OK) {
				t.Errorf("%%, %x, %x: error %d", c, d, err)
			}
		}
	}
}

func TestDecodeUndoesEncode(t *testing.T) {
	r := rand.New(rand.NewSource(154))
	for range 2000 {
		b := make([]byte, r.Intn(50))
		r.Read(b)
		for _, strokes := range []bool{false, true} {
			if got, err := uri.Decode(uri.Encode(string(b), strokes)); got != string(b) || err != api.OK {
				t.Fatalf("%q: %q, error %d", b, got, err)
			}
		}
	}
}

func TestInside(t *testing.T) {
	for in, want := range map[string]bool{
		"": true, "a": true, "/a": true, "a//b": true, "?a:b": true, "#a:b": true, "1:a": true, "a/b:c": true,
		"a:": false, "a:b": false, "a:/b": false, "//": false, "//a": false, "///a": false, "a://b": false, "http:": false,
	} {
		if got := uri.Parse(in).Inside(); got != want {
			t.Errorf("%q: %v", in, got)
		}
	}
	if !(uri.Ref{Scheme: "a", Auth: "b"}).Inside() {
		t.Error("what isn't there doesn't count")
	}
	if (uri.Ref{HasScheme: true}).Inside() || (uri.Ref{HasAuth: true}).Inside() {
		t.Error("what is empty counts")
	}
}

// goal is what Target answers, in short.
func goal(t *testing.T, from string, r uri.Ref) string {
	t.Helper()
	file, place, err := uri.Target(from, r)
	if err == api.OK {
		return file + "|" + place
	}
	if file != "" || place != "" {
		t.Errorf("%q in %q: %q, %q beside error %d", r.Text(), from, file, place, err)
	}
	return fmt.Sprint("error ", err)
}

func TestTarget(t *testing.T) {
	form, arg := fmt.Sprint("error ", api.ErrForm), fmt.Sprint("error ", api.ErrArg)
	for in, want := range map[string]string{
		"../g#s":                "b/g|s",
		"":                      "b/c/d.html|",
		"#":                     "b/c/d.html|",
		"#s":                    "b/c/d.html|s",
		"?q":                    "b/c/d.html|",
		"?%":                    "b/c/d.html|",
		"?q/#s":                 "b/c/d.html|s",
		"x":                     "b/c/x|",
		"x?y#z":                 "b/c/x|z",
		"x?y/#z/":               "b/c/x|z/",
		"x%20y#%41":             "b/c/x y|A",
		"x/":                    "b/c/x/index.html|",
		"x/#s":                  "b/c/x/index.html|s",
		"x//":                   "b/c/x//index.html|",
		"x%2F":                  "b/c/x/index.html|",
		"%2F":                   "b/c//index.html|",
		"/%2F":                  "/index.html|",
		"/%2Fa":                 "/a|",
		"/":                     "index.html|",
		"/#":                    "index.html|",
		"/x":                    "x|",
		"/x/":                   "x/index.html|",
		".":                     "b/c/index.html|",
		"./":                    "b/c/index.html|",
		"..":                    "b/index.html|",
		"../..":                 "index.html|",
		"../../..":              "index.html|",
		"../../../../z":         "z|",
		"/..":                   "index.html|",
		"/../x":                 "x|",
		"/.//x":                 "/x|",
		"/.//":                  "/index.html|",
		"x/../y":                "b/c/y|",
		"%2e%2e/x":              "b/c/../x|",
		"x/%2E":                 "b/c/x/.|",
		"x#a%20b%2":             form,
		"x#%":                   form,
		"#%zz":                  form,
		"%":                     form,
		"x%4":                   form,
		"x%zz/":                 form,
		"%#%":                   form,
		"%/../x":                "b/c/x|",
		"%%%/..":                "b/c/index.html|",
		"x#%c3%a9%00":           "b/c/x|é\x00",
		"x##y#":                 "b/c/x|#y#",
		" x ":                   "b/c/ x |",
		"é\xff":                 "b/c/é\xff|",
		"index.html":            "b/c/index.html|",
		"1:x":                   "b/c/1:x|",
		"x:y":                   arg,
		"x:":                    arg,
		"//h":                   arg,
		"//":                    arg,
		"///x":                  arg,
		"http://h/%":            arg,
		"//h#%":                 arg,
		"mailto:a@b":            arg,
		"a%3Ab":                 "b/c/a:b|",
		"./x:y":                 "b/c/x:y|",
		strings.Repeat("x", 50): "b/c/" + strings.Repeat("x", 50) + "|",
	} {
		if got := goal(t, "b/c/d.html", uri.Parse(in)); got != want {
			t.Errorf("%q: %q, want %q", in, got, want)
		}
	}
}

func TestTargetFrom(t *testing.T) {
	form := fmt.Sprint("error ", api.ErrForm)
	for _, c := range []struct{ from, in, want string }{
		{"a", "", "a|"},
		{"a", "b", "b|"},
		{"a", "../b", "b|"},
		{"a/b", "c", "a/c|"},
		{"a/", "", "a/index.html|"},
		{"a/", "b", "a/b|"},
		{"", "", "index.html|"},
		{"", "a", "a|"},
		{"", "#s", "index.html|s"},
		{"/a", "", "/a|"},
		{"/a", "b", "/b|"},
		{"a/../b", "", "a/../b|"},
		{"a/../b", "c", "c|"},
		{"a?b/c#d", "e", "a?b/e|"},
		{"a?b#c", "", "a?b#c|"},
		{"x:y", "", "x:y|"},
		{"%41", "", "A|"},
		{"%41/b", "c", "A/c|"},
		{"%", "", form},
		{"%/b", "c", form},
		{"%", "c", "c|"},
	} {
		if got := goal(t, c.from, uri.Parse(c.in)); got != c.want {
			t.Errorf("%q in %q: %q, want %q", c.in, c.from, got, c.want)
		}
	}
}

// A reference that was laid by hand is as good as one that was parsed.
func TestTargetByHand(t *testing.T) {
	for want, r := range map[string]uri.Ref{
		"b/x|":                           {Path: "x", Query: "%", HasQuery: true},
		"/x|":                            {Path: "//x"},
		"b/x#?|s":                        {Path: "x#?", Frag: "s", HasFrag: true},
		fmt.Sprint("error ", api.ErrArg): {Path: "x", HasScheme: true},
	} {
		if got := goal(t, "b/a", r); got != want {
			t.Errorf("%q: %q, want %q", r.Text(), got, want)
		}
	}
}
