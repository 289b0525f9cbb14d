package disk_test

import (
	"bytes"
	"math"
	"slices"
	"strconv"
	"strings"
	"testing"

	"wicketman/disk"
)

const (
	mostRoom  = 1 << 20
	mostName  = 20
	mostFiles = 8
)

// row is n bytes that differ from their neighbours.
func row(n int) []byte {
	b := make([]byte, n)
	for i := range b {
		b[i] = byte(i%251 + i/251)
	}
	return b
}

// every is each byte there is, once.
func every() []byte {
	b := make([]byte, 256)
	for i := range b {
		b[i] = byte(i)
	}
	return b
}

// one is the text of one byte.
func one(c byte) string { return string([]byte{c}) }

// of is a text of n bytes, all of them an 'x'.
func of(n int) string { return strings.Repeat("x", n) }

// wrongNames are texts that no file may be called.
func wrongNames() []string {
	return []string{"", of(mostName + 1), of(mostName + 2), of(255), of(256 + 1), of(100000), strings.Repeat("\u00e9", 10) + "a", strings.Repeat("\x00", 21), strings.Repeat("\xff", 21)}
}

// holds asks all that tells of a disk for these files: a name, its bytes, those that last, the next name, .. in any order.
func holds(t *testing.T, d *disk.Disk, words ...string) {
	t.Helper()
	var names []string
	used := 0
	for i := 0; i < len(words); i += 3 {
		name, all, lasts := words[i], words[i+1], words[i+2]
		names = append(names, name)
		used += len(all)
		if got, is := d.Read(name); string(got) != all || !is {
			t.Errorf("Read of %q: %q, %v, want %q, true", name, got, is, all)
		}
		if got := d.Lasting(name); string(got) != lasts {
			t.Errorf("Lasting of %q: %q, want %q", name, got, lasts)
		}
	}
	slices.Sort(names)
	if got := d.Names(); !slices.Equal(got, names) {
		t.Errorf("Names: %q, want %q", got, names)
	}
	if got := d.Used(); got != used {
		t.Errorf("Used: %d, want %d", got, used)
	}
}

// tells holds what a call told against what it has to tell.
func tells(t *testing.T, got, want bool, call string) {
	t.Helper()
	if got != want {
		t.Errorf("%s tells %v, want %v", call, got, want)
	}
}

func appends(t *testing.T, d *disk.Disk, name, b string, want bool) {
	t.Helper()
	tells(t, d.Append(name, []byte(b)), want, "Append of "+strconv.Quote(name)+", "+strconv.Quote(b))
}

func syncs(t *testing.T, d *disk.Disk, name string, want bool) {
	t.Helper()
	tells(t, d.Sync(name), want, "Sync of "+strconv.Quote(name))
}

func renames(t *testing.T, d *disk.Disk, from, to string, want bool) {
	t.Helper()
	tells(t, d.Rename(from, to), want, "Rename of "+strconv.Quote(from)+" to "+strconv.Quote(to))
}

func drops(t *testing.T, d *disk.Disk, name string, want bool) {
	t.Helper()
	tells(t, d.Drop(name), want, "Drop of "+strconv.Quote(name))
}

func isDead(t *testing.T, d *disk.Disk, want bool) {
	t.Helper()
	tells(t, d.Dead(), want, "Dead")
}

// with is a disk of room for a thousand bytes, of these files: a name, the bytes that last, those behind them, ..
func with(t *testing.T, words ...string) *disk.Disk {
	t.Helper()
	d := disk.New(1000)
	for i := 0; i < len(words); i += 3 {
		appends(t, d, words[i], words[i+1], true)
		syncs(t, d, words[i], true)
		appends(t, d, words[i], words[i+2], true)
	}
	return d
}

func TestTheChapter(t *testing.T) {
	d := disk.New(100)
	appends(t, d, "x", "ab", true)
	holds(t, d, "x", "ab", "")
	syncs(t, d, "x", true)
	holds(t, d, "x", "ab", "ab")
	appends(t, d, "x", "cd", true)
	holds(t, d, "x", "abcd", "ab")
	d.Crash(1)
	holds(t, d, "x", "abc", "abc")
	isDead(t, d, false)
}

func TestAFewFiles(t *testing.T) {
	d := disk.New(100)
	holds(t, d)
	appends(t, d, "log", "one ", true)
	appends(t, d, "snap", "state", true)
	appends(t, d, "log", "two ", true)
	holds(t, d, "log", "one two ", "", "snap", "state", "")
	syncs(t, d, "log", true)
	holds(t, d, "log", "one two ", "one two ", "snap", "state", "")
	appends(t, d, "log", "three ", true)
	appends(t, d, "next", "more", true)
	syncs(t, d, "next", true)
	holds(t, d, "log", "one two three ", "one two ", "snap", "state", "", "next", "more", "more")
	renames(t, d, "next", "snap", true)
	holds(t, d, "log", "one two three ", "one two ", "snap", "more", "more")
	drops(t, d, "log", true)
	holds(t, d, "snap", "more", "more")
	appends(t, d, "log", "four", true)
	holds(t, d, "log", "four", "", "snap", "more", "more")
	d.Crash(0)
	holds(t, d, "log", "", "", "snap", "more", "more")
	drops(t, d, "log", true)
	drops(t, d, "snap", true)
	holds(t, d)
	isDead(t, d, false)
}

func TestNew(t *testing.T) {
	for _, c := range []struct{ room, want int }{
		{0, 0}, {1, 1}, {2, 2}, {100, 100}, {65536, 65536}, {mostRoom - 1, mostRoom - 1}, {mostRoom, mostRoom},
		{-1, 0}, {-2, 0}, {-100, 0}, {-mostRoom, 0}, {math.MinInt32, 0}, {math.MinInt + 1, 0}, {math.MinInt, 0},
		{mostRoom + 1, mostRoom}, {2 * mostRoom, mostRoom}, {math.MaxInt32, mostRoom}, {math.MaxInt32 + 1, mostRoom}, {math.MaxInt - 1, mostRoom}, {math.MaxInt, mostRoom},
	} {
		d := disk.New(c.room)
		holds(t, d)
		isDead(t, d, false)
		tells(t, d.Append("x", row(c.want+1)), false, "Append of a byte more than the room of New of "+strconv.Itoa(c.room))
		holds(t, d)
		tells(t, d.Append("x", row(c.want)), true, "Append of the room of New of "+strconv.Itoa(c.room)) // of no fuse either
		holds(t, d, "x", string(row(c.want)), "")
		appends(t, d, "x", "a", false)
		appends(t, d, "y", "a", false)
		appends(t, d, "y", "", true)
		holds(t, d, "x", string(row(c.want)), "", "y", "", "")
		isDead(t, d, false)
	}
}

// What is not there is not told of, nor changed, and nothing is made.
func TestAFileThatIsNotThere(t *testing.T) {
	for _, name := range append(wrongNames(), "y", "X", "x ", " x", "xx", "x\x00", of(mostName)) {
		for _, words := range [][]string{nil, {"x", "ab", "c"}, {"x", "", ""}, {"x", "ab", "c", "z", "", "d"}} {
			d := with(t, words...)
			want := kept(d)
			if b, is := d.Read(name); len(b) != 0 || is {
				t.Errorf("Read of %q: %q, %v, want nothing, false", name, b, is)
			}
			if b := d.Lasting(name); len(b) != 0 {
				t.Errorf("Lasting of %q: %q, want nothing", name, b)
			}
			syncs(t, d, name, false)
			renames(t, d, name, "x", false)
			renames(t, d, name, "new", false)
			renames(t, d, name, name, false)
			drops(t, d, name, false)
			isDead(t, d, false)
			holds(t, d, want...)
		}
	}
}

// kept is what holds is asked with, as a disk itself tells it.
func kept(d *disk.Disk) []string {
	var words []string
	for _, name := range d.Names() {
		b, _ := d.Read(name)
		words = append(words, name, string(b), string(d.Lasting(name)))
	}
	return words
}

func TestAFileWithoutBytesIsThere(t *testing.T) {
	d := disk.New(0)
	appends(t, d, "x", "", true)
	if b, is := d.Read("x"); len(b) != 0 || !is {
		t.Errorf("Read: %q, %v, want nothing, true", b, is)
	}
	holds(t, d, "x", "", "")
	syncs(t, d, "x", true)
	renames(t, d, "x", "y", true)
	holds(t, d, "y", "", "")
	drops(t, d, "y", true)
	holds(t, d)
}

func TestNamesRise(t *testing.T) {
	for _, names := range [][]string{
		{"a", "b", "c"}, {"c", "b", "a"}, {"b", "a", "c"}, {"B", "a", "A", "b"}, {"10", "9", "1", "2"}, {"ab", "a", "b", "aa"}, {"\xff", "\x00", "a", "\x7f", "\x80"}, {"\u00e9", "f", "\xff", "e"}, {"x\x00", "x", "x\x01"}, {"h", "g", "f", "e", "d", "c", "b", "a"},
	} {
		for range 20 {
			d := disk.New(100)
			for _, name := range names {
				appends(t, d, name, "", true)
			}
			want := slices.SortedFunc(slices.Values(names), func(a, b string) int { return bytes.Compare([]byte(a), []byte(b)) })
			if got := d.Names(); !slices.Equal(got, want) {
				t.Fatalf("Names: %q, want %q", got, want)
			}
		}
	}
}

func TestANilDisk(t *testing.T) {
	var d *disk.Disk
	for range 2 {
		for _, name := range []string{"x", "", of(21)} {
			if b, is := d.Read(name); len(b) != 0 || is {
				t.Errorf("Read of %q: %q, %v", name, b, is)
			}
			if b := d.Lasting(name); len(b) != 0 {
				t.Errorf("Lasting of %q: %q", name, b)
			}
			appends(t, d, name, "", false)
			appends(t, d, name, "a", false)
			syncs(t, d, name, false)
			renames(t, d, name, "y", false)
			renames(t, d, name, name, false)
			drops(t, d, name, false)
		}
		holds(t, d)
		isDead(t, d, false)
		if other := d.Copy(); other != nil {
			t.Error("Copy tells a disk")
		}
		for _, n := range []int{-1, 0, 1, math.MinInt, math.MaxInt} {
			d.Fuse(n)
			d.Crash(n)
			isDead(t, d, false)
		}
	}
}

// What is done to one disk is done to no other one.
func TestDisksKnowNothingOfOneAnother(t *testing.T) {
	one, two := disk.New(10), disk.New(20)
	appends(t, one, "x", "ab", true)
	holds(t, two)
	appends(t, two, "x", "cdef", true)
	one.Fuse(0)
	syncs(t, one, "x", false)
	isDead(t, one, true)
	isDead(t, two, false)
	syncs(t, two, "x", true)
	holds(t, one, "x", "ab", "")
	holds(t, two, "x", "cdef", "cdef")
	one.Crash(0)
	drops(t, two, "x", true)
	holds(t, one, "x", "", "")
	holds(t, two)
}
