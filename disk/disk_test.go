package disk_test

import (
	"bytes"
	"math"
	"math/rand"
	"slices"
	"strconv"
	"strings"
	"testing"

	"woodcut/api"
	"woodcut/disk"
)

func must(t *testing.T, errs ...api.Errno) {
	t.Helper()
	for i, err := range errs {
		if err != api.OK {
			t.Fatalf("step %d: error %d", i, err)
		}
	}
}

func write(d *disk.Disk, name, s string) api.Errno { return d.Write(name, []byte(s)) }

// files is what a disk holds, told as one text.
func files(d *disk.Disk) string {
	var parts []string
	for _, name := range d.Names() {
		b, err := d.Read(name)
		if err != api.OK {
			return "Read " + name + ": " + strconv.Itoa(int(err))
		}
		parts = append(parts, name+"="+string(b))
	}
	return strings.Join(parts, " ")
}

func holds(t *testing.T, d *disk.Disk, want string) {
	t.Helper()
	if got := files(d); got != want {
		t.Errorf("the disk holds %q, want %q", got, want)
	}
}

// P4.1: New, Named, and the methods that return an error

func TestNewBoundsItsRoom(t *testing.T) {
	for room, want := range map[int]int{
		-1: 0, math.MinInt: 0, 0: 0, 1: 1, 20: 20,
		disk.MostRoom: 1 << 24, disk.MostRoom + 1: 1 << 24, math.MaxInt: 1 << 24,
	} {
		d := disk.New(room)
		if d.Free() != want || d.Used() != 0 || len(d.Names()) != 0 || d.Steps() != 0 || d.Down() {
			t.Errorf("New(%d): Free %d, want %d", room, d.Free(), want)
		}
	}
}

func TestNamed(t *testing.T) {
	for _, s := range []string{"a", "z", "0", "9", ".", "-", "..", "a.b-c0", strings.Repeat("x", 80)} {
		if !disk.Named(s) {
			t.Errorf("Named(%q) is false", s)
		}
	}
	for _, s := range []string{"", "A", "aZ", "a b", "a/b", "a_b", "`", "{", ":", "é", "\x00", "\xff", "a\n", strings.Repeat("x", 81)} {
		if disk.Named(s) {
			t.Errorf("Named(%q) is true", s)
		}
	}
	for c := range 256 {
		want := strings.IndexByte("abcdefghijklmnopqrstuvwxyz0123456789.-", byte(c)) >= 0
		if got := disk.Named(string([]byte{'a', byte(c)})); got != want {
			t.Errorf("Named of byte %x: %v", c, got)
		}
	}
}

func TestWriteAppends(t *testing.T) {
	d := disk.New(100)
	must(t, write(d, "a", "xy"), write(d, "b", ""), write(d, "a", "z"), write(d, "a", ""))
	holds(t, d, "a=xyz b=")
	if d.Used() != 3 || d.Free() != 97 || d.Steps() != 4 {
		t.Errorf("Used %d, Free %d, Steps %d", d.Used(), d.Free(), d.Steps())
	}
}

func TestWriteFull(t *testing.T) {
	d := disk.New(3)
	must(t, write(d, "a", "xy"))
	if err := write(d, "b", "12"); err != api.ErrFull {
		t.Errorf("error %d", err)
	}
	holds(t, d, "a=xy")
	must(t, write(d, "b", "1"), write(d, "c", ""))
	if err := write(d, "a", "1"); err != api.ErrFull || d.Free() != 0 {
		t.Errorf("error %d, Free %d", err, d.Free())
	}
	must(t, d.Drop("a"), write(d, "b", "23"))
	holds(t, d, "b=123 c=")
}

func TestWriteMany(t *testing.T) {
	d := disk.New(10)
	for i := range disk.MostFiles {
		must(t, d.Write("f"+strconv.Itoa(i), nil))
	}
	if err := write(d, "g", "more than there is room for"); err != api.ErrMany {
		t.Errorf("error %d", err)
	}
	if err := d.Write("g", nil); err != api.ErrMany || len(d.Names()) != 2000 {
		t.Errorf("error %d", err)
	}
	must(t, write(d, "f7", "x"), d.Move("f7", "f8"), d.Write("g", nil))
	if err := d.Write("h", nil); err != api.ErrMany {
		t.Errorf("error %d", err)
	}
	must(t, d.Drop("g"), d.Write("h", nil))
}

func TestMove(t *testing.T) {
	d := disk.New(100)
	must(t, write(d, "a", "xy"), d.Move("a", "b"))
	holds(t, d, "b=xy")
	must(t, write(d, "a", "123"), d.Move("b", "a"))
	holds(t, d, "a=xy")
	if d.Used() != 2 || d.Free() != 98 {
		t.Errorf("Used %d, Free %d", d.Used(), d.Free())
	}
	if err := d.Move("b", "a"); err != api.ErrNone {
		t.Errorf("error %d", err)
	}
	if err := d.Move("b", "b"); err != api.ErrNone {
		t.Errorf("error %d", err)
	}
	steps := d.Steps()
	must(t, d.Move("a", "a"))
	holds(t, d, "a=xy")
	if d.Steps() != steps+1 || d.Used() != 2 {
		t.Errorf("Steps %d, Used %d", d.Steps(), d.Used())
	}
}

// The bytes go with the name: what is written to either afterwards shows there alone.
func TestWriteAfterMove(t *testing.T) {
	d := disk.New(100)
	must(t, write(d, "a", "x"), d.Sync(), d.Move("a", "b"), write(d, "a", "1"), write(d, "b", "y"), write(d, "a", "2"))
	holds(t, d, "a=12 b=xy")
}

func TestDrop(t *testing.T) {
	d := disk.New(100)
	must(t, write(d, "a", "xy"), write(d, "b", "z"), d.Drop("a"))
	holds(t, d, "b=z")
	if err := d.Drop("a"); err != api.ErrNone || d.Used() != 1 {
		t.Errorf("error %d, Used %d", err, d.Used())
	}
	must(t, write(d, "a", "n"))
	holds(t, d, "a=n b=z")
}

func TestRead(t *testing.T) {
	d := disk.New(100)
	if b, err := d.Read("a"); err != api.ErrNone || b != nil {
		t.Errorf("%q, error %d", b, err)
	}
	must(t, d.Write("a", nil))
	if b, err := d.Read("a"); err != api.OK || len(b) != 0 {
		t.Errorf("%q, error %d", b, err)
	}
	if d.Steps() != 1 {
		t.Errorf("Read is a step: %d", d.Steps())
	}
}

func TestNoMemoryIsShared(t *testing.T) {
	d := disk.New(100)
	in := []byte("xy")
	must(t, d.Write("a", in))
	in[0] = '?'
	out, _ := d.Read("a")
	if string(out) != "xy" {
		t.Errorf("the argument was kept: %q", out)
	}
	out[0] = '!'
	_ = append(out, '!')
	must(t, write(d, "a", "z"))
	holds(t, d, "a=xyz")
	d.Crash(9, 0)
	holds(t, d, "a=xyz")
	names := d.Names()
	names[0] = "q"
	holds(t, d, "a=xyz")
}

func TestSyncMakesDurable(t *testing.T) {
	d := disk.New(100)
	must(t, write(d, "a", "xy"), write(d, "b", "1"), d.Move("b", "c"), write(d, "e", ""), d.Drop("a"), d.Sync())
	d.Crash(0, 0)
	holds(t, d, "c=1 e=")
	must(t, write(d, "c", "2"), d.Sync(), d.Sync(), write(d, "c", "3"))
	d.Crash(-1, 0)
	holds(t, d, "c=12 e=")
}

// calls does each call that returns an error, by names both of which it gets.
func calls(d *disk.Disk, name, to string) map[string]api.Errno {
	b, read := d.Read(name)
	if b != nil {
		read = -1
	}
	return map[string]api.Errno{
		"Write": write(d, name, "x"), "Move": d.Move(name, to), "Move back": d.Move(to, name),
		"Drop": d.Drop(name), "Read": read,
	}
}

func TestWrongNames(t *testing.T) {
	d := disk.New(0)
	must(t, d.Write("ok", nil))
	for _, name := range []string{"", "A", "a/b", strings.Repeat("a", 81)} {
		for call, err := range calls(d, name, "ok") {
			if err != api.ErrArg {
				t.Errorf("%s of %q: error %d", call, name, err)
			}
		}
	}
	if err := d.Move("none", "A"); err != api.ErrArg {
		t.Errorf("a wrong name behind a file that isn't there: error %d", err)
	}
	if d.Steps() != 1 || files(d) != "ok=" {
		t.Errorf("Steps %d, files %s", d.Steps(), files(d))
	}
}

func TestNilDisk(t *testing.T) {
	var d *disk.Disk
	for call, err := range calls(d, "a", "b") {
		if err != api.ErrArg {
			t.Errorf("%s: error %d", call, err)
		}
	}
	if err := d.Sync(); err != api.ErrArg {
		t.Errorf("Sync: error %d", err)
	}
	d.Fuse(1)
	d.Crash(1, 1)
	if d.Names() != nil || d.Used() != 0 || d.Free() != 0 || d.Down() || d.Steps() != 0 {
		t.Error("a nil disk has something")
	}
}

func TestZeroDisk(t *testing.T) {
	var d disk.Disk
	if err := write(&d, "a", "x"); err != api.ErrFull {
		t.Errorf("error %d", err)
	}
	d.Crash(1, 1)
	must(t, d.Sync(), d.Write("a", nil), d.Move("a", "b"), d.Sync(), d.Drop("b"))
	d.Crash(0, 1)
	holds(t, &d, "b=")
}

func TestPowerOff(t *testing.T) {
	d := disk.New(100)
	must(t, write(d, "a", "x"))
	d.Fuse(1)
	if err := d.Sync(); err != api.ErrDown {
		t.Fatalf("error %d", err)
	}
	for call, err := range calls(d, "a", "b") {
		if err != api.ErrDown {
			t.Errorf("%s: error %d", call, err)
		}
	}
	for call, err := range calls(d, "none", "no") {
		if err != api.ErrDown {
			t.Errorf("%s of no file: error %d", call, err)
		}
	}
	if err := write(d, "a", strings.Repeat("x", 101)); err != api.ErrDown {
		t.Errorf("too much: error %d", err)
	}
	for call, err := range calls(d, "A", "B") {
		if err != api.ErrArg {
			t.Errorf("%s by a wrong name: error %d", call, err)
		}
	}
	if err := d.Sync(); err != api.ErrDown {
		t.Errorf("Sync: error %d", err)
	}
	if d.Names() != nil || !d.Down() || d.Steps() != 1 || d.Used() != 1 || d.Free() != 99 {
		t.Errorf("Names %v, Steps %d, Used %d", d.Names(), d.Steps(), d.Used())
	}
	d.Crash(9, 0)
	holds(t, d, "a=x")
}

// P4.2: Names, Used, Free, Fuse, Down, Steps

func TestNamesAreSorted(t *testing.T) {
	d := disk.New(100)
	want := []string{"-", ".", "0", "10", "9", "a", "a-", "a.", "aa", "b"}
	for _, i := range rand.New(rand.NewSource(1)).Perm(len(want)) {
		must(t, d.Write(want[i], nil))
	}
	if got := d.Names(); !slices.Equal(got, want) {
		t.Errorf("Names %q", got)
	}
}

func TestFuseAtAChange(t *testing.T) {
	for _, c := range []struct {
		name         string
		step         func(*disk.Disk) api.Errno
		lost, stayed string
		used         int
	}{
		{"Write", func(d *disk.Disk) api.Errno { return write(d, "c", "zw") }, "a=xy b=1", "a=xy b=1 c=zw", 5},
		{"Move", func(d *disk.Disk) api.Errno { return d.Move("a", "b") }, "a=xy b=1", "b=xy", 2},
		{"Drop", func(d *disk.Disk) api.Errno { return d.Drop("a") }, "a=xy b=1", "b=1", 1},
	} {
		for keep, want := range map[int]string{0: c.lost, 1: c.stayed} {
			d := disk.New(100)
			must(t, write(d, "a", "xy"), write(d, "b", "1"), d.Sync())
			d.Fuse(1)
			if err := c.step(d); err != api.ErrDown || !d.Down() || d.Steps() != 3 {
				t.Errorf("%s: error %d, Steps %d", c.name, err, d.Steps())
			}
			// It was done, though it isn't safe.
			if d.Used() != c.used || d.Free() != 100-c.used {
				t.Errorf("%s: Used %d, want %d", c.name, d.Used(), c.used)
			}
			d.Crash(keep, 0)
			holds(t, d, want)
		}
	}
}

func TestFuseAtASync(t *testing.T) {
	d := disk.New(100)
	must(t, write(d, "a", "x"))
	d.Fuse(1)
	if err := d.Sync(); err != api.ErrDown || !d.Down() {
		t.Errorf("error %d", err)
	}
	d.Crash(0, 0)
	holds(t, d, "")
}

func TestFuseCountsSteps(t *testing.T) {
	d := disk.New(3)
	must(t, write(d, "a", "x"))
	d.Fuse(4)
	must(t, d.Move("a", "a"))
	// None of these is a step.
	d.Read("a")
	if write(d, "b", "1234") != api.ErrFull || d.Drop("n") != api.ErrNone || d.Move("n", "m") != api.ErrNone || write(d, "N", "") != api.ErrArg {
		t.Error("no error")
	}
	must(t, d.Sync(), write(d, "a", "y"))
	if d.Steps() != 4 || d.Down() {
		t.Errorf("Steps %d", d.Steps())
	}
	if write(d, "b", "1234") != api.ErrFull || d.Down() {
		t.Error("what isn't a step burnt the fuse")
	}
	if err := d.Drop("a"); err != api.ErrDown || d.Steps() != 4 {
		t.Errorf("error %d, Steps %d", err, d.Steps())
	}
	d.Crash(0, 0)
	holds(t, d, "a=x")
	if d.Steps() != 4 {
		t.Errorf("Steps %d behind a crash", d.Steps())
	}
}

func TestFuseIsSetAnewAndCancelled(t *testing.T) {
	for _, n := range []int{0, -1, math.MinInt} {
		d := disk.New(9)
		d.Fuse(2)
		must(t, d.Sync())
		d.Fuse(n)
		must(t, d.Sync(), d.Sync(), d.Sync())
	}
	d := disk.New(9)
	d.Fuse(1)
	d.Fuse(3)
	must(t, d.Sync(), d.Sync())
	d.Fuse(2)
	must(t, d.Sync())
	if d.Sync() != api.ErrDown {
		t.Error("no ErrDown")
	}
}

func TestFuseWhileThePowerIsOff(t *testing.T) {
	d := disk.New(9)
	d.Fuse(1)
	d.Sync()
	d.Fuse(0)
	if !d.Down() {
		t.Error("the power came back")
	}
	d.Fuse(1)
	d.Crash(0, 0)
	must(t, d.Sync(), d.Sync())
}

// P4.3: Crash

func TestCrashExample(t *testing.T) {
	d := disk.New(100)
	must(t, write(d, "a", "xy"), d.Sync(), write(d, "a", "zw"), d.Move("a", "b"))
	d.Crash(0, 1)
	holds(t, d, "a=xyz")
}

func TestCrashKeepsTheFirstChanges(t *testing.T) {
	for _, c := range []struct {
		keep, torn int
		want       string
	}{
		{0, 0, "a=1"}, {-3, 0, "a=1"}, {math.MinInt, math.MinInt, "a=1"}, {0, -1, "a=1"},
		{0, 1, "a=12"}, {-1, 1, "a=12"}, {0, 2, "a=123"}, {0, 9, "a=123"}, {0, math.MaxInt, "a=123"},
		{1, 0, "a=123"}, {1, 9, "a=123"},
		{2, 0, "b=123"}, {2, -1, "b=123"}, {2, 1, "b=123 c="}, {2, 9, "b=123 c="},
		{3, 0, "b=123 c="}, {3, 1, "b=123 c="}, {4, 0, "c="}, {4, 1, "a=x c="},
		{5, 0, "a=xy c="}, {5, 1, "a=xy c="}, {6, 0, "a=xy c="}, {math.MaxInt, math.MaxInt, "a=xy c="},
	} {
		d := disk.New(100)
		must(t, write(d, "a", "1"), d.Sync())
		must(t, write(d, "a", "23"), d.Move("a", "b"), d.Move("b", "b"), write(d, "c", ""), d.Drop("b"), write(d, "a", "xy"))
		d.Crash(c.keep, c.torn)
		if got := files(d); got != c.want {
			t.Errorf("Crash(%d, %d): %q, want %q", c.keep, c.torn, got, c.want)
		}
		used := 0
		for _, name := range d.Names() {
			b, _ := d.Read(name)
			used += len(b)
		}
		if d.Used() != used || d.Free() != 100-used {
			t.Errorf("Crash(%d, %d): Used %d, want %d", c.keep, c.torn, d.Used(), used)
		}
		// What is left is durable, and nothing of the rest comes back.
		d.Crash(9, 9)
		if got := files(d); got != c.want {
			t.Errorf("Crash(%d, %d), and another: %q, want %q", c.keep, c.torn, got, c.want)
		}
	}
}

// It is a step, but none of the changes: neither counted in keep, nor the next one in the way of a torn Write.
func TestCrashDoesNotCountAMoveOntoItself(t *testing.T) {
	for _, c := range []struct {
		keep, torn int
		want       string
	}{
		{0, 0, ""}, {0, 1, "a=x"}, {1, 0, "a=x"}, {1, 1, "a=x b=y"}, {1, 9, "a=x b=yz"}, {2, 0, "a=x b=yz"},
	} {
		d := disk.New(100)
		must(t, write(d, "a", "x"), d.Move("a", "a"), d.Move("a", "a"), write(d, "b", "yz"), d.Move("b", "b"))
		if d.Steps() != 5 {
			t.Errorf("Steps %d", d.Steps())
		}
		d.Crash(c.keep, c.torn)
		if got := files(d); got != c.want {
			t.Errorf("Crash(%d, %d): %q, want %q", c.keep, c.torn, got, c.want)
		}
	}
}

func TestFuseAtAMoveOntoItself(t *testing.T) {
	for _, c := range []struct {
		keep, torn int
		want       string
	}{{0, 0, ""}, {0, 1, "a=x"}, {1, 0, "a=x"}, {2, 0, "a=x"}} {
		d := disk.New(100)
		must(t, write(d, "a", "x"))
		d.Fuse(2)
		must(t, d.Move("a", "a"))
		if err := d.Move("a", "a"); err != api.ErrDown || !d.Down() || d.Steps() != 2 || d.Used() != 1 {
			t.Errorf("error %d, Steps %d, Used %d", err, d.Steps(), d.Used())
		}
		d.Crash(c.keep, c.torn)
		if got := files(d); got != c.want {
			t.Errorf("Crash(%d, %d): %q, want %q", c.keep, c.torn, got, c.want)
		}
	}
}

func TestCrashCancelsAFuse(t *testing.T) {
	d := disk.New(9)
	d.Fuse(1)
	d.Crash(0, 0)
	must(t, d.Sync())
	if d.Down() || d.Steps() != 1 {
		t.Errorf("Down %v, Steps %d", d.Down(), d.Steps())
	}
}

// What is written behind a crash shows in the file alone, not in what was safe ahead of it.
func TestWritesBehindACrash(t *testing.T) {
	d := disk.New(100)
	must(t, write(d, "a", "12345"), write(d, "a", "678"), d.Sync())
	d.Crash(0, 0)
	must(t, write(d, "a", "old"))
	d.Crash(0, 0)
	must(t, write(d, "a", "n"), d.Sync(), write(d, "a", "ew"))
	holds(t, d, "a=12345678new")
	d.Crash(0, 1)
	holds(t, d, "a=12345678ne")
}

// done is a change as the model keeps it: of a Write also what was written, and to which file.
type done struct {
	do         func(map[string]string)
	isWrite    bool
	name, text string
}

// model is a disk in the plainest way: all that was done from the last durable files on, done anew each time.
type model struct {
	safe  map[string]string
	log   []done
	steps int
}

func (m *model) now(keep int) map[string]string {
	files := map[string]string{}
	for name, s := range m.safe {
		files[name] = s
	}
	for _, c := range m.log[:keep] {
		c.do(files)
	}
	return files
}

func (m *model) settle(keep int) { m.safe, m.log = m.now(keep), nil }

func (m *model) crash(keep, torn int) {
	keep = min(max(keep, 0), len(m.log))
	if torn > 0 && keep < len(m.log) && m.log[keep].isWrite {
		c := m.log[keep]
		m.log[keep] = writing(c.name, c.text[:min(torn, len(c.text))])
		keep++
	}
	m.settle(keep)
}

func (m *model) text() string {
	files := m.now(len(m.log))
	var parts []string
	for name, s := range files {
		parts = append(parts, name+"="+s)
	}
	slices.Sort(parts)
	return strings.Join(parts, " ")
}

func writing(name, s string) done {
	return done{func(files map[string]string) { files[name] += s }, true, name, s}
}

func moving(name, to string) done {
	return done{do: func(files map[string]string) {
		s := files[name]
		delete(files, name)
		files[to] = s
	}}
}

func dropping(name string) done {
	return done{do: func(files map[string]string) { delete(files, name) }}
}

func TestAgainstAModel(t *testing.T) {
	for seed := range 400 {
		playAgainstModel(t, rand.New(rand.NewSource(int64(seed))))
	}
}

// playStep does one thing to both.
func playStep(t *testing.T, r *rand.Rand, d *disk.Disk, m *model) {
	name, to := string(rune('a'+r.Intn(4))), string(rune('a'+r.Intn(4)))
	_, have := m.now(len(m.log))[name]
	m.steps++
	switch k := r.Intn(12); {
	case k < 6:
		s := strings.Repeat(string(rune('a'+r.Intn(26))), r.Intn(5))
		must(t, write(d, name, s))
		m.log = append(m.log, writing(name, s))
	case k < 9 && have:
		must(t, d.Move(name, to))
		// Onto itself it is a step, but no change.
		if name != to {
			m.log = append(m.log, moving(name, to))
		}
	case k < 10 && have:
		must(t, d.Drop(name))
		m.log = append(m.log, dropping(name))
	case k == 10:
		must(t, d.Sync())
		m.settle(len(m.log))
	default:
		m.steps--
		keep, torn := r.Intn(len(m.log)+3)-1, r.Intn(7)-1
		d.Crash(keep, torn)
		m.crash(keep, torn)
	}
}

func playAgainstModel(t *testing.T, r *rand.Rand) {
	const room = 400
	d, m := disk.New(room), &model{}
	for range 80 {
		playStep(t, r, d, m)
		holds(t, d, m.text())
		used := 0
		for _, s := range m.now(len(m.log)) {
			used += len(s)
		}
		if d.Used() != used || d.Free() != room-used || d.Steps() != m.steps {
			t.Fatalf("Used %d, want %d; Steps %d, want %d", d.Used(), used, d.Steps(), m.steps)
		}
	}
}

func TestGreatFile(t *testing.T) {
	d := disk.New(disk.MostRoom)
	part := bytes.Repeat([]byte("x"), 1<<10)
	for range disk.MostRoom / len(part) {
		must(t, d.Write("a", part))
	}
	if d.Free() != 0 || write(d, "a", "x") != api.ErrFull {
		t.Errorf("Free %d", d.Free())
	}
	must(t, d.Sync())
	d.Crash(0, 0)
	if b, err := d.Read("a"); err != api.OK || len(b) != disk.MostRoom {
		t.Errorf("%d bytes, error %d", len(b), err)
	}
}
