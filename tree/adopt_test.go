package tree_test

import "testing"

// P12.6: the adoption agency algorithm

func TestAdoptionWithoutABlock(t *testing.T) {
	cases{
		{"1</b>2", "'12'"},
		{"<b>1</i>2", "b('12')"},
		{"<b>1</b>2", "b('1') '2'"},
		{"<i><b>1</i>2", "i(b('1')) b('2')"},
		{"<b><span>1</b>2", "b(span('1')) '2'"},
		{"<p><b></p></b>1", "p(b) '1'"},
		{"<p><b></b></p>1", "p(b) '1'"},
		{"<p><b><i></b></p>1", "p(b(i)) i('1')"},
		{"<b><object></b>1</object>2", "b(object('1') '2')"},
		{"<b><x><y></b>1", "b(x(y)) '1'"},
		{"<p><b><b></p></b>1", "p(b(b)) b('1')"},
		{"<b><b><b><b><b></b></b></b><x></b>1", "b(b(b(b(b)) x) '1')"},
	}.check(t, body)
}

func TestAdoptionOutOfScope(t *testing.T) {
	cases{
		{"<b><table></b>1</table>2", "b('1' table '2')"},
		{"<b><table><td></b>1", "b(table(tbody(tr(td('1')))))"},
		{"<b><marquee></b>1</marquee>2", "b(marquee('1') '2')"},
		{"<b><template></b>1</template>2", "b(template('1') '2')"},
		{"<p><b><svg><desc></b>1", "p(b(svg:svg(svg:desc('1'))))"},
		{"<b><math><mi></b>1", "b(math:math(math:mi('1')))"},
	}.check(t, body)
}

func TestAdoption(t *testing.T) {
	cases{
		{"<p>1<b>2<i>3</b>4</i>5</p>", "p('1' b('2' i('3')) i('4') '5')"},
		{"<b>1<p>2</b>3</p>", "b('1') p(b('2') '3')"},
		{"<a>1<div>2<div>3</a>4</div>5</div>6", "a('1') div(a('2') div(a('3') '4') '5') '6'"},
		{"<b a=1><i b=2><p>1</b>2", "b[a=1](i[b=2]) i[b=2](p(b[a=1]('1') '2'))"},
		{"<b><i><p>1</b>2</i>3", "b(i) i p(i(b('1') '2') '3')"},
		{"<b><i><p>1</i>2</b>3", "b(i) p(b(i('1') '2') '3')"},
		{"<b><p><i>1</b>2</i>3", "b p(b(i('1')) i('2') '3')"},
		{"<b><p>1<i>2</b>3</p>4", "b p(b('1' i('2')) i('3')) i('4')"},
		{"<b><p>1<!--c--></b>2", "b p(b('1' !c) '2')"},
		{"<b><p></b>", "b p(b)"},
		{"<b><div><p>1</b>2", "b div(b p(b('1') '2'))"},
		{"<b><p><button>1</b>2", "b p(b button(b('1') '2'))"},
		{"<button><b><p></button>1</b>2", "button(b(p)) b('1') '2'"},
		{"<a><p><a><p>1", "a p(a a) p(a('1'))"},
		{"<a><p>1</a>2", "a p(a('1') '2')"},
		{"<font><p>1</font>2", "font p(font('1') '2')"},
		{"<nobr><div>1</nobr>2", "nobr div(nobr('1') '2')"},
		{"<em><code><p>1</em>2", "em(code) code(p(em('1') '2'))"},
		{"<b><em><i><p>1</em>2</i>3", "b(em(i) i p(i(em('1') '2') '3'))"},
	}.check(t, body)
}

// The fourth element between the two, and those further out, are formatting elements no more.
func TestAdoptionOfMany(t *testing.T) {
	cases{
		{"<b><i><u><p>1</b>2", "b(i(u)) i(u(p(b('1') '2')))"},
		{"<b><i><u><s><p>1</b>2", "b(i(u(s))) i(u(s(p(b('1') '2'))))"},
		{"<b><i><u><s><em><p>1</b>2", "b(i(u(s(em)))) u(s(em(p(b('1') '2'))))"},
		{"<b><i><u><s><em><code><p>1</b>2</p>3", "b(i(u(s(em(code))))) s(em(code(p(b('1') '2') '3')))"},
		{"<b><x><i><y><u><s><p>1</b>2", "b(x(i(y(u(s))))) u(s(p(b('1') '2')))"},
		{"<b><x><y><z><i><p>1</b>2</p>3", "b(x(y(z(i)))) i(p(b('1') '2') '3')"},
	}.check(t, body)
}

// What is no formatting element is left where it is.
func TestAdoptionPastOthers(t *testing.T) {
	cases{
		{"<b><x><i><p>1</b>2</p>3", "b(x(i)) i(p(b('1') '2') '3')"},
		{"<b><span><div>1</b>2</span>3", "b(span) div(b('1') '23')"},
		{"<b><i><span><u><div>1</b>2</div>3", "b(i(span(u))) i(u(div(b('1') '2') '3'))"},
		{"<b><x><p>1</b>2</x>3", "b(x) p(b('1') '23')"},
		{"<b><x><p>1</b>2</p>3", "b(x) p(b('1') '2') '3'"},
		{"<b><x><y><p>1</b>2</p></x>3", "b(x(y)) p(b('1') '2') '3'"},
	}.check(t, body)
}

// In which order elements go on, told by what is opened again.
func TestBookmark(t *testing.T) {
	cases{
		{"<b><i><p><u>1</b>2</p>3", "b(i) i(p(b(u('1')) u('2')) u('3'))"},
		{"<i><b><p><u>1</b>2</p>3", "i(b p(b(u('1')) u('2')) u('3'))"},
		{"<b><i><p><u>1</b></p>3", "b(i) i(p(b(u('1'))) u('3'))"},
		{"<b><i><u><p><s>1</b></p></s>3</u>4</i>5", "b(i(u)) i(u(p(b(s('1'))) '3') '4') '5'"},
		{"<a><b><div><i><u>1</a></div>2", "a(b) b(div(a(i(u('1')))) i(u('2')))"},
		{"<b><i><x><u><p><s>1</b></p>2", "b(i(x(u))) i(u(p(b(s('1'))) s('2')))"},
	}.check(t, body)
}

func TestAdoptionEightTimes(t *testing.T) {
	cases{
		{"<b><div><div><div><div><div><div><div><div><div><div>1</b>2", "b div(b div(b div(b div(b div(b div(b div(b div(b(div(div('12')))))))))))"},
		{"<b><div><div><div><div><div><div><div>1</b>2", "b div(b div(b div(b div(b div(b div(b div(b('1') '2')))))))"},
		{"<b><p><b><p><b><p>1</b>2</b>3</b>4", "b(p(b) p(b(b))) p(b(b(b('1') '2') '3') '4')"},
	}.check(t, body)
}

// Behind eight rounds the element goes on, behind what was between it and the first block.
func TestBookmarkOfWhatGoesOn(t *testing.T) {
	cases{
		{"<b><i><div><div><div><div><div><div><div><div><div><div>1</b></div></div></div></div></div></div></div></div></div></div>2", "b(i) i(div(b div(b div(b div(b div(b div(b div(b div(b(div(div('1'))))))))))) b('2'))"},
		{"<b><i><div><div><div><div><div><div><div><div><div><div><u>1</b></div></div></div></div></div></div></div></div></div></div>2", "b(i) i(div(b div(b div(b div(b div(b div(b div(b div(b(div(div(u('1')))))))))))) b(u('2')))"},
		{"<b><i><s><div><div><div><div><div><div><div><div><div><div><u>1</b></div></div></div></div></div></div></div></div></div></div></s>2</i>3", "b(i(s)) i(s(div(b div(b div(b div(b div(b div(b div(b div(b(div(div(u('1'))))))))))))) b(u('2'))) b(u('3'))"},
		{"<b><div><div><div><div><div><div><div><div><div><div><u>1</b></div></div></div></div></div></div></div></div></div></div>2", "b div(b div(b div(b div(b div(b div(b div(b div(b(div(div(u('1')))))))))))) b(u('2'))"},
		{"<u><b><i><div><div><div><div><div><div><div><div><div><div>1</b></div></div></div></div></div></div></div></div></div></div></i>2", "u(b(i) i(div(b div(b div(b div(b div(b div(b div(b div(b(div(div('1')))))))))))) b('2'))"},
		{"<b><i><s><em><code><div><div><div><div><div><div><div><div><div><div><u>1</b></div></div></div></div></div></div></div></div></div></div></em></code>2", "b(i(s(em(code)))) s(em(code(div(b div(b div(b div(b div(b div(b div(b div(b(div(div(u('1')))))))))))))) b(u('2')))"},
		{"<b><x><i><y><div><div><div><div><div><div><div><div><div><div><u>1</b></div></div></div></div></div></div></div></div></div></div></i>2", "b(x(i(y))) i(div(b div(b div(b div(b div(b div(b div(b div(b(div(div(u('1'))))))))))))) b(u('2'))"},
		{"<b><i><x><div><div><div><div><div><div><div><div><div><div>1</b></div></div></div></div></div></div></div></div></div></div>2", "b(i(x)) i(div(b div(b div(b div(b div(b div(b div(b div(b(div(div('1'))))))))))) b('2'))"},
	}.check(t, body)
}

func TestInnermostThatIsNoFormattingElement(t *testing.T) {
	cases{
		{"<b><b><b><b>1</b>2</b>3</b>4</b>5", "b(b(b(b('1') '2') '3') '4') '5'"},
		{"<b><b><b><b><p>1", "b(b(b(b(p('1')))))"},
		{"<b x=1><b x=1><b x=1><b x=1><p>1</p></b></b></b></b>2", "b[x=1](b[x=1](b[x=1](b[x=1](p('1'))))) '2'"},
		{"<p><a x><object><a y>1</object>2</a>3", "p(a[x=](object(a[y=]('1')) '2') '3')"},
	}.check(t, body)
}

func TestThreeThatAreAlike(t *testing.T) {
	cases{
		{"<p><b><b><b><b></p>1", "p(b(b(b(b)))) b(b(b('1')))"},
		{"<p><b id=a><b id=b><b id=c><b id=d></p>1", "p(b[id=a](b[id=b](b[id=c](b[id=d])))) b[id=a](b[id=b](b[id=c](b[id=d]('1'))))"},
		{"<p><b x=1 y=2><b y=2 x=1><b x=1 y=2><b y=2 x=1></p>1", "p(b[x=1][y=2](b[y=2][x=1](b[x=1][y=2](b[y=2][x=1])))) b[y=2][x=1](b[x=1][y=2](b[y=2][x=1]('1')))"},
		{"<p><b><i><b><i><b><i><b></p>1", "p(b(i(b(i(b(i(b))))))) i(b(i(b(i(b('1'))))))"},
		{"<p><b><b><object><b><b><p></p>1", "p(b(b(object(b(b(p '1'))))))"},
	}.check(t, body)
}

func TestAdoptionInOtherPlaces(t *testing.T) {
	cases{
		{"<template><b><p>1</b>2", "template(b p(b('1') '2'))"},
		{"<template><b><i><p>1</b>2", "template(b(i) i(p(b('1') '2')))"},
		{"<table><b><p>1</b>2", "b p(b('1') '2') table"},
		{"<table><b><i><p>1</b>2", "b(i) i(p(b('1') '2')) table"},
		{"<table><b><p>1<tr></b>2", "b(p('1')) '2' table(tbody(tr))"},
		{"<b>1<table>2</b>3<tr>4</b>5", "b('12345' table(tbody(tr)))"},
		{"<table><td><b><p>1</b>2", "table(tbody(tr(td(b p(b('1') '2')))))"},
		{"<ul><b><li>1</b>2", "ul(b li(b('1') '2'))"},
		{"<svg><desc><b><p>1</b>2", "svg:svg(svg:desc(b p(b('1') '2')))"},
		{"<math><mi><b><p>1</b>2", "math:math(math:mi(b p(b('1') '2')))"},
	}.check(t, body)
}
