package frame_test

import (
	"bytes"
	"hash/fnv"
	"math/rand"
	"slices"
	"strings"
	"testing"

	"woodcut/api"
	"woodcut/frame"
	"woodcut/num"
)

func put(t *testing.T, b []byte, data string) []byte {
	t.Helper()
	out, err := frame.Put(b, []byte(data))
	if err != api.OK {
		t.Fatalf("Put of %d bytes: error %d", len(data), err)
	}
	return out
}

// framed is the frames of texts, one behind the other.
func framed(t *testing.T, datas ...string) []byte {
	t.Helper()
	var b []byte
	for _, data := range datas {
		b = put(t, b, data)
	}
	return b
}

// fails tells of a Next that doesn't answer this error, and nothing beside it.
func fails(t *testing.T, name string, b []byte, want api.Errno) {
	t.Helper()
	if data, size, err := frame.Next(b); err != want || len(data) != 0 || size != 0 {
		t.Errorf("%s: Next answers %d bytes, size %d, error %d, want error %d", name, len(data), size, err, want)
	}
}

// P5.1: Sum

func TestSumIsKnown(t *testing.T) {
	for s, want := range map[string]uint32{
		"":       2166136261,
		"a":      0xe40c292c,
		"\x00":   0x050c5d1f,
		"foobar": 0xbf9cf968,
	} {
		if got := frame.Sum([]byte(s)); got != want {
			t.Errorf("Sum(%q) = %x, want %x", s, got, want)
		}
	}
	if frame.Sum(nil) != 2166136261 {
		t.Error("Sum of nil")
	}
}

func TestSumIsFNV1a(t *testing.T) {
	r := rand.New(rand.NewSource(1))
	for range 300 {
		b := make([]byte, r.Intn(400))
		r.Read(b)
		h := fnv.New32a()
		h.Write(b)
		if got := frame.Sum(b); got != h.Sum32() {
			t.Fatalf("Sum(%x) = %x, want %x", b, got, h.Sum32())
		}
	}
}

// P5.1: Put

func TestPutLaysLengthSumData(t *testing.T) {
	long := strings.Repeat("z", 300)
	for _, c := range []struct{ data, head string }{
		{"", "\x00\xc5\x9d\x1c\x81"},
		{"a", "\x01\x2c\x29\x0c\xe4"},
		{"foobar", "\x06\x68\xf9\x9c\xbf"},
	} {
		if got := put(t, nil, c.data); string(got) != c.head+c.data {
			t.Errorf("Put(nil, %q) = %x", c.data, got)
		}
		if got := put(t, []byte("xy"), c.data); string(got) != "xy"+c.head+c.data {
			t.Errorf("Put(xy, %q) = %x", c.data, got)
		}
	}
	if got := put(t, nil, long); string(got[:2]) != "\xac\x02" || len(got) != 306 || string(got[6:]) != long {
		t.Errorf("Put of 300 bytes = %x", got)
	}
}

func TestPutBoundsItsData(t *testing.T) {
	if frame.Most != 1<<21 {
		t.Fatal("Most", frame.Most)
	}
	data := bytes.Repeat([]byte("ab"), frame.Most/2)
	b := put(t, []byte("x"), string(data))
	if got, size, err := frame.Next(b[1:]); err != api.OK || size != frame.Most+8 || !bytes.Equal(got, data) {
		t.Errorf("Next of the longest frame: %d bytes, size %d, error %d", len(got), size, err)
	}
	for _, before := range []string{"", "xyz"} {
		got, err := frame.Put([]byte(before), make([]byte, frame.Most+1))
		if err != api.ErrLong || string(got) != before {
			t.Errorf("Put of one byte too many = %q, error %d", got, err)
		}
	}
}

func TestPutSharesNoMemory(t *testing.T) {
	for name, data := range map[string][]byte{"a frame": []byte("q"), "too long": make([]byte, frame.Most+1)} {
		room := []byte("abcdefghijklmnopqrstuvwxyz")
		got, _ := frame.Put(room[:3], data)
		if string(room) != "abcdefghijklmnopqrstuvwxyz" {
			t.Errorf("%s: Put wrote into its argument's room: %q", name, room)
		}
		room[0] = 'X'
		if string(got[:3]) != "abc" {
			t.Errorf("%s: Put's result shares its argument's memory", name)
		}
	}
	data := []byte("data")
	got, _ := frame.Put(nil, data)
	data[0] = 'X'
	if string(got[5:]) != "data" {
		t.Error("Put's result shares its data's memory")
	}
}

// P5.1: Next

func TestNextReadsBack(t *testing.T) {
	for _, data := range []string{"", "a", "\x00\xff", strings.Repeat("z", 127), strings.Repeat("z", 128), strings.Repeat("yz", 1<<13)} {
		b := put(t, nil, data)
		for _, behind := range []string{"", "\x00", "\xff\xff\xff", string(b)} {
			got, size, err := frame.Next([]byte(string(b) + behind))
			if err != api.OK || size != len(b) || string(got) != data {
				t.Errorf("Next of %d bytes in a frame: %d bytes, size %d, error %d", len(data), len(got), size, err)
			}
		}
	}
}

func TestNextSharesNoMemory(t *testing.T) {
	b := framed(t, "ab", "cd")
	got, _, _ := frame.Next(b)
	got[0] = 'X'
	_ = append(got, "XXXX"...)
	if !bytes.Equal(b, framed(t, "ab", "cd")) {
		t.Error("Next's result shares its argument's memory")
	}
	got, _, _ = frame.Next(b)
	clear(b)
	if string(got) != "ab" {
		t.Error("Next's argument shares its result's memory")
	}
}

func TestNextErrors(t *testing.T) {
	eight, nine := strings.Repeat("\x80", 8), strings.Repeat("\x80", 9)
	for _, c := range []struct {
		name, in string
		want     api.Errno
	}{
		{"nothing", "", api.ErrShort},
		{"a length without its end", "\x80", api.ErrShort},
		{"a length without its end, above the bound", "\xff\xff\xff\xff\xff", api.ErrShort},
		{"nine bytes of a length", nine, api.ErrShort},
		{"an unnecessary byte", "\x80\x00\xc5\x9d\x1c\x81", api.ErrBad},
		{"an unnecessary byte, and nothing behind", "\x81\x00", api.ErrBad},
		{"an unnecessary tenth byte", nine + "\x00\xc5\x9d\x1c\x81", api.ErrBad},
		{"one above the bound", "\x81\x80\x80\x01", api.ErrBad},
		{"one above the bound, and more", "\x81\x80\x80\x01\x01\x02\x03\x04", api.ErrBad},
		{"at the bound", "\x80\x80\x80\x01", api.ErrShort},
		{"2^63", nine + "\x01\x00\x00\x00\x00", api.ErrBad},
		{"2^56 without its end", eight, api.ErrShort},
		{"more than 64 bits", nine + "\x02\x00\x00\x00\x00", api.ErrBad},
		{"more than 64 bits, and nothing behind", nine + "\x02", api.ErrBad},
		{"a tenth byte that asks for more", nine + "\x80", api.ErrBad},
		{"a tenth byte that asks for more and has it", nine + "\x81\x01", api.ErrBad},
		{"all bits", strings.Repeat("\xff", 40), api.ErrBad},
		{"no sum", "\x00", api.ErrShort},
		{"a part of a sum", "\x00\xc5\x9d\x1c", api.ErrShort},
		{"a part of a wrong sum", "\x00\x00\x00\x00", api.ErrShort},
		{"a wrong sum", "\x00\x00\x00\x00\x00", api.ErrBad},
		{"a sum with its highest byte first", "\x00\x81\x1c\x9d\xc5", api.ErrBad},
		{"no data", "\x01\x2c\x29\x0c\xe4", api.ErrShort},
		{"a part of the data", "\x02\x2c\x29\x0c\xe4a", api.ErrShort},
		{"other data", "\x01\x2c\x29\x0c\xe4b", api.ErrBad},
	} {
		fails(t, c.name, []byte(c.in), c.want)
	}
	fails(t, "nil", nil, api.ErrShort)
}

// P5.2: All, Whole

type step struct {
	after int
	data  string
}

func steps(b []byte) []step {
	var list []step
	for after, data := range frame.All(b) {
		list = append(list, step{after, string(data)})
	}
	return list
}

func TestAllGoesThroughFrames(t *testing.T) {
	b := framed(t, "ab", "", "c")
	want := []step{{7, "ab"}, {12, ""}, {18, "c"}}
	for _, behind := range []string{"", "\x01", "\x00\x00\x00\x00\x00", "\x80\x00", "\xff"} {
		if got := steps([]byte(string(b) + behind)); !slices.Equal(got, want) {
			t.Errorf("All with %x behind: %v", behind, got)
		}
	}
	for _, bad := range []int{7, 8, 11} {
		spoilt := slices.Clone(b)
		spoilt[bad] ^= 0x40
		if got := steps(spoilt); !slices.Equal(got, want[:1]) {
			t.Errorf("All with byte %d spoilt: %v", bad, got)
		}
	}
	for _, none := range [][]byte{nil, {}, {0}, []byte("\x00\x00\x00\x00\x00")} {
		if got := steps(none); len(got) != 0 {
			t.Errorf("All(%x): %v", none, got)
		}
	}
}

func TestAllMayBeLeftAndUsedAgain(t *testing.T) {
	all := frame.All(framed(t, "ab", "", "c"))
	for most := range 4 {
		n := 0
		for range all {
			n++
			if n > most {
				break
			}
		}
		if n != min(most+1, 3) {
			t.Errorf("left behind %d: %d frames", most, n)
		}
	}
	for range 2 {
		sum := 0
		for after, data := range all {
			sum += after
			clear(data) // what is handed out isn't what the next loop reads
		}
		if sum != 7+12+18 {
			t.Errorf("used again: %d", sum)
		}
	}
}

func TestAllKeepsNoArgument(t *testing.T) {
	b := framed(t, "ab", "c")
	all := frame.All(b)
	clear(b)
	n := 0
	for range all {
		n++
	}
	if n != 2 {
		t.Errorf("All keeps its argument: %d frames", n)
	}
}

func TestWholeIsAllData(t *testing.T) {
	for _, datas := range [][]string{nil, {""}, {"a"}, {"", "", ""}, {"ab", "", strings.Repeat("z", 300), "\x00"}} {
		b := framed(t, datas...)
		before := slices.Clone(b)
		list, err := frame.Whole(b)
		if err != api.OK || !slices.EqualFunc(list, datas, func(b []byte, s string) bool { return string(b) == s }) {
			t.Errorf("Whole of %q = %q, error %d", datas, list, err)
		}
		for i := range list {
			_ = append(list[i], "XXXXXXXX"...)
			for j := range list[i] {
				list[i][j] ^= 0xff
			}
		}
		if !bytes.Equal(b, before) {
			t.Errorf("Whole of %q shares its argument's memory", datas)
		}
		for i, data := range datas {
			for j := range list[i] {
				if list[i][j] != data[j]^0xff {
					t.Errorf("Whole of %q: its lists share memory", datas)
				}
			}
		}
	}
}

func TestWholeErrors(t *testing.T) {
	whole := framed(t, "ab", "")
	for behind, want := range map[string]api.Errno{
		"\x00":                         api.ErrShort,
		"\x80":                         api.ErrShort,
		"\x02\x00\x00\x00\x00":         api.ErrShort,
		"\x80\x00":                     api.ErrBad,
		"\x81\x80\x80\x01":             api.ErrBad,
		"\x00\x00\x00\x00\x00":         api.ErrBad,
		"\x00\x00\x00\x00\x00\x00\x00": api.ErrBad,
	} {
		for _, before := range [][]byte{nil, whole} {
			if list, err := frame.Whole([]byte(string(before) + behind)); err != want || len(list) != 0 {
				t.Errorf("Whole of %x with %x behind: %d lists, error %d, want %d", before, behind, len(list), err, want)
			}
		}
	}
	// A good frame behind a bad one doesn't help.
	spoilt := framed(t, "ab", "cd", "ef")
	spoilt[7+5] ^= 1
	if list, err := frame.Whole(spoilt); err != api.ErrBad || len(list) != 0 {
		t.Errorf("Whole with a bad frame inside: %d lists, error %d", len(list), err)
	}
}

func TestManyFrames(t *testing.T) {
	one := framed(t, "ab")
	const many = 200000
	list, err := frame.Whole(bytes.Repeat(one, many))
	if err != api.OK || len(list) != many {
		t.Errorf("Whole of many frames: %d, error %d", len(list), err)
	}
}

// P5.3

func TestEveryProperPrefixIsShort(t *testing.T) {
	for _, data := range []string{"", "a", "ab\x00", strings.Repeat("\x80", 130), strings.Repeat("z", 20000)} {
		b := put(t, nil, data)
		for i := range min(len(b), 400) {
			fails(t, "a prefix", b[:i], api.ErrShort)
			fails(t, "a prefix", b[:len(b)-1-i], api.ErrShort)
		}
	}
}

func TestEveryChangedByteIsBad(t *testing.T) {
	for _, data := range []string{"", "a", "ab\x00\xff", strings.Repeat("\x80z", 70)} {
		b := put(t, nil, data)
		for i := len(num.Put(nil, uint64(len(data)))); i < len(b); i++ {
			for change := 1; change < 256; change++ {
				spoilt := slices.Clone(b)
				spoilt[i] ^= byte(change)
				fails(t, "a changed byte", spoilt, api.ErrBad)
			}
		}
	}
}

// No bytes let a call panic, and what is read is what would be written.
func TestAnyBytes(t *testing.T) {
	r := rand.New(rand.NewSource(2))
	good := framed(t, "ab", "", strings.Repeat("z", 200))
	for range 20000 {
		b := slices.Clone(good[:r.Intn(len(good)+1)])
		for range r.Intn(3) {
			if len(b) > 0 {
				b[r.Intn(len(b))] = byte(r.Intn(256))
			}
		}
		end := 0
		var again []byte
		for after, data := range frame.All(b) {
			again = put(t, again, string(data))
			end = after
		}
		if !bytes.Equal(again, b[:end]) {
			t.Fatalf("%x: the frames are %x, to %d", b, again, end)
		}
		_, _, next := frame.Next(b[end:])
		if _, err := frame.Whole(b); next == api.OK || (err == api.OK) != (end == len(b)) || err != api.OK && err != next {
			t.Fatalf("%x: Whole answers %d, Next %d at %d", b, err, next, end)
		}
	}
}
