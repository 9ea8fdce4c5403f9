package num_test

import (
	"bytes"
	"math"
	"strings"
	"testing"

	"woodcut/api"
	"woodcut/num"
)

const all = math.MaxUint64

// P3.1: Put, Text

func TestPutEncodes(t *testing.T) {
	for _, c := range []struct {
		n    uint64
		want string
	}{
		{0, "\x00"},
		{1, "\x01"},
		{127, "\x7f"},
		{128, "\x80\x01"},
		{300, "\xac\x02"},
		{1<<14 - 1, "\xff\x7f"},
		{1 << 14, "\x80\x80\x01"},
		{1<<63 - 1, strings.Repeat("\xff", 8) + "\x7f"},
		{1 << 63, strings.Repeat("\x80", 9) + "\x01"},
		{all, strings.Repeat("\xff", 9) + "\x01"},
	} {
		if got := num.Put(nil, c.n); string(got) != c.want {
			t.Errorf("Put(nil, %d) = %x, want %x", c.n, got, c.want)
		}
		if got := num.Put([]byte("xy"), c.n); string(got) != "xy"+c.want {
			t.Errorf("Put(xy, %d) = %x", c.n, got)
		}
	}
}

func TestTextEncodes(t *testing.T) {
	long := strings.Repeat("z", 300)
	for _, c := range []struct{ b, s, want string }{
		{"", "ab", "\x02ab"},
		{"", "", "\x00"},
		{"xy", "ab", "xy\x02ab"},
		{"", "\xff\x00", "\x02\xff\x00"},
		{"", "é", "\x02\xc3\xa9"},
		{"", long, "\xac\x02" + long},
	} {
		if got := num.Text([]byte(c.b), c.s); string(got) != c.want {
			t.Errorf("Text(%q, %q) = %x, want %x", c.b, c.s, got, c.want)
		}
	}
}

// What is appended must not show in memory that the caller has.
func TestAppendingSharesNoMemory(t *testing.T) {
	for name, add := range map[string]func([]byte) []byte{
		"Put":  func(b []byte) []byte { return num.Put(b, 5) },
		"Text": func(b []byte) []byte { return num.Text(b, "q") },
	} {
		room := []byte("abcdefghijklmnopqrstuvwxyz")
		got := add(room[:3])
		if string(room) != "abcdefghijklmnopqrstuvwxyz" {
			t.Errorf("%s wrote into its argument's room: %q", name, room)
		}
		room[0] = 'X'
		if got[0] != 'a' {
			t.Errorf("%s's result shares its argument's memory", name)
		}
	}
}

// P3.1: Read and its Reader

func TestNumReadsBack(t *testing.T) {
	ns := []uint64{0, 1, 127, 128, 255, 256, 300, 1<<32 - 1, 1 << 32, all - 1, all}
	for i := range 64 {
		ns = append(ns, 1<<i, 1<<i-1, 1<<i+1)
	}
	var b []byte
	for _, n := range ns {
		b = num.Put(b, n)
	}
	r := num.Read(b)
	for _, n := range ns {
		if got := r.Num(n); got != n || r.Err() != api.OK {
			t.Fatalf("Num = %d, want %d, %v", got, n, r.Err())
		}
	}
	if r.End() != api.OK || r.Left() != 0 {
		t.Errorf("End %v, Left %d", r.End(), r.Left())
	}
}

func TestNumErrors(t *testing.T) {
	nine := strings.Repeat("\x80", 9)
	for _, c := range []struct {
		name, in string
		most     uint64
		want     api.Errno
	}{
		{"nothing", "", all, api.ErrShort},
		{"an end that lacks", "\x80", all, api.ErrShort},
		{"nine bytes that ask for more", nine, all, api.ErrShort},
		{"short ahead of its bound", "\xff", 0, api.ErrShort},
		{"a last 0", "\x80\x00", all, api.ErrForm},
		{"a last 0 further on", "\x81\x80\x00", all, api.ErrForm},
		{"a last 0 ahead of a bound", "\x85\x00", 1, api.ErrForm},
		{"a tenth byte of 0", nine + "\x00", all, api.ErrForm},
		{"a tenth byte of 2", nine + "\x02", all, api.ErrForm},
		{"a tenth byte of 2, and more", nine + "\x02\x01", all, api.ErrForm},
		{"a tenth byte that asks for more", nine + "\x80", all, api.ErrForm},
		{"a tenth byte that asks for more and has it", nine + "\x81\x01", all, api.ErrForm},
		{"a tenth byte of 127", nine + "\x7f", 5, api.ErrForm},
		{"above its bound", "\x0b", 10, api.ErrMany},
		{"above a bound of 0", "\x01", 0, api.ErrMany},
		{"above the greatest but one", strings.Repeat("\xff", 9) + "\x01", all - 1, api.ErrMany},
	} {
		r := num.Read([]byte(c.in))
		if n := r.Num(c.most); n != 0 || r.Err() != c.want {
			t.Errorf("%s: Num = %d, %v, want %v", c.name, n, r.Err(), c.want)
		}
		if r.Left() != 0 || r.End() != c.want {
			t.Errorf("%s: Left %d, End %v", c.name, r.Left(), r.End())
		}
		if s := num.Read([]byte(c.in)); s.Text(int(min(c.most, math.MaxInt))) != "" || s.Err() == api.OK {
			t.Errorf("%s: Text has no error", c.name)
		}
	}
}

func TestNumAtItsBound(t *testing.T) {
	for _, n := range []uint64{0, 10, all} {
		r := num.Read(num.Put(nil, n))
		if got := r.Num(n); got != n || r.End() != api.OK {
			t.Errorf("Num(%d) = %d, %v", n, got, r.End())
		}
	}
}

func TestTextReads(t *testing.T) {
	r := num.Read([]byte("\x02ab\x00\x01\xffrest"))
	for _, c := range []struct {
		most int
		want string
		left int
	}{{2, "ab", 7}, {-5, "", 6}, {math.MaxInt, "\xff", 4}} {
		if s := r.Text(c.most); s != c.want || r.Err() != api.OK || r.Left() != c.left {
			t.Errorf("Text(%d) = %q, %v, Left %d", c.most, s, r.Err(), r.Left())
		}
	}
	if r.End() != api.ErrForm || r.Err() != api.OK || r.Left() != 4 {
		t.Errorf("End %v, Err %v, Left %d", r.End(), r.Err(), r.Left())
	}
}

func TestTextReadsToTheEnd(t *testing.T) {
	long := strings.Repeat("z", 300)
	r := num.Read(num.Text(num.Text(nil, ""), long))
	if r.Text(0) != "" || r.Text(300) != long || r.End() != api.OK || r.Left() != 0 {
		t.Errorf("Err %v, Left %d", r.Err(), r.Left())
	}
}

func TestTextErrors(t *testing.T) {
	for _, c := range []struct {
		name, in string
		most     int
		want     api.Errno
	}{
		{"nothing", "", 9, api.ErrShort},
		{"a length that lacks", "\x80", 9, api.ErrShort},
		{"bytes that lack", "\x03ab", 9, api.ErrShort},
		{"bytes that lack, all of them", "\x01", 1, api.ErrShort},
		{"too long ahead of short", "\x03ab", 2, api.ErrMany},
		{"too long", "\x03abc", 2, api.ErrMany},
		{"a most below 0", "\x01a", -1, api.ErrMany},
		{"the least most", "\x01a", math.MinInt, api.ErrMany},
		{"a form ahead of all", "\x81\x00a", 0, api.ErrForm},
		{"the greatest length", strings.Repeat("\xff", 9) + "\x01a", math.MaxInt, api.ErrMany},
		{"the greatest int", strings.Repeat("\xff", 8) + "\x7fa", math.MaxInt, api.ErrShort},
	} {
		r := num.Read([]byte(c.in))
		if s := r.Text(c.most); s != "" || r.Err() != c.want || r.Left() != 0 || r.End() != c.want {
			t.Errorf("%s: %q, Err %v, want %v, Left %d, End %v", c.name, s, r.Err(), c.want, r.Left(), r.End())
		}
	}
}

func TestNothingIsReadAfterAnError(t *testing.T) {
	r := num.Read([]byte("\x01\x80\x00\x07\x01a"))
	if r.Num(9) != 1 || r.Num(9) != 0 || r.Err() != api.ErrForm {
		t.Fatal("no error", r.Err())
	}
	if n, s := r.Num(all), r.Text(9); n != 0 || s != "" || r.Err() != api.ErrForm || r.Left() != 0 || r.End() != api.ErrForm {
		t.Errorf("%d %q Err %v Left %d End %v", n, s, r.Err(), r.Left(), r.End())
	}
	r = num.Read([]byte("\x05\x01a"))
	r.Num(4)
	// A bound that the number keeps to comes too late.
	if n, s := r.Num(all), r.Text(9); n != 0 || s != "" || r.End() != api.ErrMany {
		t.Errorf("%d %q %v", n, s, r.End())
	}
}

func TestNilReader(t *testing.T) {
	var r *num.Reader
	if r.Num(all) != 0 || r.Text(9) != "" || r.Left() != 0 || r.Err() != api.ErrArg || r.End() != api.ErrArg {
		t.Error("nil reader", r.Err(), r.End())
	}
}

func TestReaderOfNothing(t *testing.T) {
	for _, r := range []*num.Reader{num.Read(nil), num.Read([]byte{}), {}} {
		if r.Err() != api.OK || r.Left() != 0 || r.End() != api.OK || r.Num(all) != 0 || r.Err() != api.ErrShort {
			t.Error("reader of nothing", r.Err(), r.End())
		}
	}
}

func TestReadKeepsNoArgument(t *testing.T) {
	b := []byte("\x02ab\x07")
	r := num.Read(b)
	copy(b, bytes.Repeat([]byte{0xff}, len(b)))
	if s := r.Text(9); s != "ab" || r.Num(9) != 7 {
		t.Errorf("%q %v", s, r.Err())
	}
}
