// Package chars is layer 2: see shared/doc/02-chars.md.
package chars

import (
	"woodcut/text"
)

// Entry is a name of a sign, and whether it may stand without its end.
type Entry struct {
	Name string
	Sign rune
	Bare bool
}

// The one name that stands for two signs, and the second of them: an Entry has room for the first alone.
const (
	pairName        = "nvlt"
	pairSecond rune = 8402
)

// beyond is the value at which a number's digits stop to matter: the least one above all signs.
const beyond = 0x110000

// windows is what the numbers from 128 to 159 mean: the signs of windows-1252, of which old pages speak by them.
var windows = [32]rune{
	8364, 129, 8218, 402, 8222, 8230, 8224, 8225,
	710, 8240, 352, 8249, 338, 141, 381, 143,
	144, 8216, 8217, 8220, 8221, 8226, 8211, 8212,
	732, 8482, 353, 8250, 339, 157, 382, 376,
}

// entries is all names, in order of their bytes.
func entries() [61]Entry {
	return [61]Entry{
		{"AMP", 38, true}, {"Auml", 196, true}, {"Eacute", 201, true}, {"GT", 62, true},
		{"LT", 60, true}, {"Ouml", 214, true}, {"Uuml", 220, true}, {"agrave", 224, true},
		{"alpha", 945, false}, {"amp", 38, true}, {"apos", 39, false}, {"auml", 228, true},
		{"bull", 8226, false}, {"ccedil", 231, true}, {"cent", 162, true}, {"copy", 169, true},
		{"deg", 176, true}, {"divide", 247, true}, {"eacute", 233, true}, {"euro", 8364, false},
		{"frac12", 189, true}, {"gt", 62, true}, {"hellip", 8230, false}, {"iexcl", 161, true},
		{"infin", 8734, false}, {"iquest", 191, true}, {"laquo", 171, true}, {"larr", 8592, false},
		{"ldquo", 8220, false}, {"le", 8804, false}, {"lsquo", 8216, false}, {"lt", 60, true},
		{"mdash", 8212, false}, {"micro", 181, true}, {"middot", 183, true}, {"nbsp", 160, true},
		{"ndash", 8211, false}, {"ne", 8800, false}, {"not", 172, true}, {"notin", 8713, false},
		{"ntilde", 241, true}, {"nvlt", 60, false}, {"omega", 969, false}, {"ouml", 246, true},
		{"para", 182, true}, {"plusmn", 177, true}, {"pound", 163, true}, {"quot", 34, true},
		{"raquo", 187, true}, {"rarr", 8594, false}, {"rdquo", 8221, false}, {"reg", 174, true},
		{"rsquo", 8217, false}, {"sect", 167, true}, {"shy", 173, true}, {"sup2", 178, true},
		{"szlig", 223, true}, {"times", 215, true}, {"trade", 8482, false}, {"uuml", 252, true},
		{"yen", 165, true},
	}
}

// Names is all names, in order.
func Names() []Entry {
	all := entries()
	return all[:]
}

// Match is the longest name with which signs begin: the signs that it means, how many it takes, whether its end stands there; 0: there is none.
func Match(rs []rune) ([]rune, int, bool) {
	var best Entry
	most, ended := 0, false
	for _, e := range entries() {
		if n, end := taken(rs, e); n > most {
			best, most, ended = e, n, end
		}
	}
	if most == 0 {
		return nil, 0, false
	}
	return meaning(best), most, ended
}

// taken is how many signs a name takes with which signs begin, and whether its end is among them; 0: it doesn't match.
func taken(rs []rune, e Entry) (int, bool) {
	size := len(e.Name)
	if len(rs) < size {
		return 0, false
	}
	for i := range size {
		if rs[i] != rune(e.Name[i]) {
			return 0, false
		}
	}
	if len(rs) > size && rs[size] == ';' {
		return size + 1, true
	}
	if e.Bare {
		return size, false
	}
	return 0, false
}

// meaning is the signs that a name stands for.
func meaning(e Entry) []rune {
	if e.Name == pairName {
		return []rune{e.Sign, pairSecond}
	}
	return []rune{e.Sign}
}

// Numeric is the sign that a number means.
func Numeric(n int) rune {
	switch {
	case n <= 0, n >= beyond, n >= 0xd800 && n <= 0xdfff:
		return text.Replaced
	case n >= 128 && n <= 159:
		return windows[n-128]
	}
	return rune(n)
}

// Number is a number's digits in front of signs, to the base 10 or 16: the number, beyond all signs 1 more than the greatest, and how many digits.
func Number(rs []rune, base int) (int, int) {
	if base != 10 && base != 16 {
		return 0, 0
	}
	value := 0
	for i, r := range rs {
		digit := text.Hex(r)
		if digit < 0 || digit >= base {
			return value, i
		}
		// Held down at every digit: a long row of them would wrap round.
		value = min(value*base+digit, beyond)
	}
	return value, len(rs)
}
