package tree_test

import (
	"strings"
	"testing"
)

// The lists of names in P12.5 and P12.9

const (
	blocks = "address article aside blockquote center details dialog dir div dl fieldset figcaption figure footer header hgroup main menu nav ol " +
		"search section summary ul"
	headings   = "h1 h2 h3 h4 h5 h6"
	formatting = "b big code em font i s small strike strong tt u"
	marked     = "applet marquee object"
	alones     = "area br embed img keygen wbr input"
	ignored    = "caption col colgroup tbody td tfoot th thead tr frame frameset head"
	plain      = "span q abbr label cite video foo rb rt ruby option optgroup noscript data time"
)

// each holds a pattern in which NAME stands for a name against what is wanted, for all names.
func each(t *testing.T, names, in, want string) {
	t.Helper()
	for _, name := range words(names) {
		cases{{strings.ReplaceAll(in, "NAME", name), strings.ReplaceAll(want, "NAME", name)}}.check(t, body)
	}
}

func TestStartsOfBlocks(t *testing.T) {
	all := blocks + " p"
	each(t, all, "<p>a<NAME b=c>d", "p('a') NAME[b=c]('d')")
	each(t, all, "<p><button><NAME>a", "p(button(NAME('a')))")
	each(t, all, "<p><i></p><NAME>a", "p(i) NAME(i('a'))")
	each(t, all, "<h1><p><NAME>a", "h1(p NAME('a'))")
}

func TestEndsOfBlocks(t *testing.T) {
	all := blocks + " button listing pre"
	each(t, all, "<NAME>a<i>b</NAME>c", "NAME('a' i('b')) i('c')")
	each(t, all, "<NAME><li>a</NAME>b", "NAME(li('a')) 'b'")
	each(t, without(all, "button"), "<NAME><button>a</NAME>b", "NAME(button('a')) 'b'")
	each(t, without(all, "ul"), "<NAME><ul>a</NAME>b", "NAME(ul('a')) 'b'")
	each(t, all, "<NAME><object>a</NAME>b", "NAME(object('ab'))")
	each(t, all, "<NAME><h1>a</NAME>b", "NAME(h1('a')) 'b'")
	each(t, all, "<NAME><x>a</NAME>b", "NAME(x('a')) 'b'")
	each(t, all, "a</NAME>b", "'ab'")
	each(t, all, "<NAME><table><td>a</NAME>b", "NAME(table(tbody(tr(td('ab')))))")
	each(t, all, "<NAME><svg><desc>a</NAME>b", "NAME(svg:svg(svg:desc('ab')))")
}

func TestAllHeadings(t *testing.T) {
	each(t, headings, "<p>a<NAME>b<h1>c</NAME>d", "p('a') NAME('b') h1('c') 'd'")
	each(t, headings, "<NAME><b>a</h4>c", "NAME(b('a')) b('c')")
	each(t, headings, "<h2>a</NAME>b", "h2('a') 'b'")
}

func TestFormattingElements(t *testing.T) {
	all := formatting + " a nobr"
	each(t, all, "<p><NAME b=c>a</p>d", "p(NAME[b=c]('a')) NAME[b=c]('d')")
	each(t, all, "<NAME>1<p>2</NAME>3</p>4", "NAME('1') p(NAME('2') '3') '4'")
	each(t, all, "<p><sub></p><NAME>1", "p(sub) NAME('1')")
	each(t, all, "<p><dfn><NAME></p></NAME>1", "p(dfn(NAME)) '1'")
	each(t, formatting, "<NAME><NAME>1</NAME>2", "NAME(NAME('1') '2')")
	each(t, "a nobr", "<NAME><NAME>1</NAME>2", "NAME NAME('1') '2'")
}

func TestElementsWithoutFormatting(t *testing.T) {
	each(t, plain, "<p><NAME b=c>a</p>d", "p(NAME[b=c]('a')) 'd'")
	each(t, plain, "<p><i></p><NAME-x>a", "p(i) i(NAME-x('a'))")
	each(t, plain, "<NAME><x>a</NAME>b", "NAME(x('a')) 'b'")
}

func TestMarkedElements(t *testing.T) {
	each(t, marked, "<b><NAME c=d>a<i>e</NAME>f", "b(NAME[c=d]('a' i('e')) 'f')")
	each(t, marked, "<p><i></p><NAME>a", "p(i) i(NAME('a'))")
	each(t, marked, "<i><NAME></i>a</NAME>b</i>c", "i(NAME('a') 'b') 'c'")
	each(t, marked, "<p><b><NAME>a<i>c</NAME></p>d", "p(b(NAME('a' i('c')))) b('d')")
	each(t, marked, "<NAME><button>a</NAME>b", "NAME(button('a')) 'b'")
	each(t, marked, "<NAME><ul>a</NAME>b", "NAME(ul('a')) 'b'")
	each(t, marked, "<NAME><li>a</NAME>b", "NAME(li('a')) 'b'")
	each(t, marked, "a</NAME>b", "'ab'")
	each(t, marked, "<NAME><table><td></NAME>a", "NAME(table(tbody(tr(td('a')))))")
}

func TestElementsAlone(t *testing.T) {
	each(t, alones, "<p><i></p><NAME b=c>a", "p(i) i(NAME[b=c] 'a')")
	each(t, alones, "<p>a<NAME/>b", "p('a' NAME 'b')")
	each(t, "param source track", "<p><i></p><NAME b=c>a", "p(i) NAME[b=c] i('a')")
	each(t, "param source track", "<p>a<NAME>b", "p('a' NAME 'b')")
	each(t, strings.ReplaceAll(alones, " br ", " ")+" param source track hr", "a<NAME></NAME>b", "'a' NAME 'b'")
}

func TestStartsThatAreIgnored(t *testing.T) {
	each(t, ignored, "<p>a<NAME b=c>d", "p('ad')")
	each(t, ignored, "<p><i></p><NAME><p>a", "p(i) p(i('a'))")
}

func TestElementsOfTheHeadInBody(t *testing.T) {
	each(t, "base basefont bgsound link meta", "<p><i></p><NAME b=c>a", "p(i) NAME[b=c] i('a')")
	each(t, "noframes script style title iframe noembed textarea", "<p><i></p><NAME b=c>d<e></NAME>a", "p(i) NAME[b=c]('d<e>') i('a')")
	each(t, "noframes script style iframe noembed xmp", "<p>a</p><NAME>&amp;</NAME>b", "p('a') NAME('&amp;') 'b'")
	each(t, "title textarea", "<p>a</p><NAME>&amp;</NAME>b", "p('a') NAME('&') 'b'")
}

// The special elements that may be open around a text in body.
const (
	specials = blocks + " " + headings + " " + scoping + " button dd dt form listing noscript p pre"
	scoping  = "applet marquee object" // they bound the scopes, too
)

// without is names without some of them.
func without(names, some string) string {
	out := ""
	for _, name := range words(names) {
		if !strings.Contains(" "+some+" ", " "+name+" ") {
			out += " " + name
		}
	}
	return out
}

func TestSpecials(t *testing.T) {
	all := without(specials, "dialog")
	each(t, all+" li", "<foo><NAME>a</foo>b", "foo(NAME('ab'))")
	each(t, without(all, "address div p"), "<li><NAME>a<li>b", "li(NAME('a' li('b')))")
	each(t, "address div p", "<li><NAME>a<li>b", "li(NAME('a')) li('b')")
	each(t, without(all, scoping)+" li", "<b><NAME>1</b>2", "b NAME(b('1') '2')")
	each(t, scoping, "<b><NAME>1</b>2", "b(NAME('12'))")
}

func TestElementsThatAreNotSpecial(t *testing.T) {
	all := without(plain, "noscript") + " dialog"
	each(t, all, "<x-foo><NAME>a</x-foo>b", "x-foo(NAME('a')) 'b'")
	each(t, all, "<li><NAME>a<li>b", "li(NAME('a')) li('b')")
	each(t, all, "<b><NAME>1</b>2", "b(NAME('1')) '2'")
}

func TestNamesThatLeaveForeign(t *testing.T) {
	kept := "blockquote center code dd div dl dt em h1 h2 h3 h4 h5 h6 i b big li listing menu nobr ol p pre ruby s small span strong strike sub sup tt u ul var"
	each(t, kept, "<svg><g><NAME a=b>c", "svg:svg(svg:g) NAME[a=b]('c')")
	each(t, kept, "<math><mrow><NAME a=b/>c", "math:math(math:mrow) NAME[a=b/]('c')")
	each(t, "br embed img hr meta", "<svg><g><NAME a=b>c", "svg:svg(svg:g) NAME[a=b] 'c'")
	each(t, "body head", "<svg><g><NAME>c", "svg:svg(svg:g) 'c'")
	each(t, "table", "<svg><g><NAME>c", "svg:svg(svg:g) 'c' NAME")
	stays := "a abbr address article aside base button caption col colgroup fieldset foo form frame html iframe image input link main math nav " +
		"noscript object option plaintext q script section select style svg tbody td template textarea tfoot th thead title tr xmp"
	each(t, without(stays, "title"), "<svg><g><NAME b=c>d", "svg:svg(svg:g(svg:NAME[b=c]('d')))")
	each(t, stays, "<math><mrow><NAME b=c />d", "math:math(math:mrow(math:NAME[b=c] 'd'))")
	each(t, "div span foo b table", "<svg><g></NAME>a", "svg:svg(svg:g('a'))")
}
