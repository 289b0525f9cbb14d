package disk_test

import (
	"bytes"
	"slices"
	"strings"
	"testing"
	"unsafe"

	"wicketman/disk"
)

// over is a text in memory that can be spoilt, and that memory.
func over(s string) (string, []byte) {
	b := []byte(s)
	return unsafe.String(unsafe.SliceData(b), len(b)), b
}

func spoil(b []byte) {
	for i := range b {
		b[i] ^= 0x15
	}
}

// bytesOf is the memory of a text.
func bytesOf(s string) []byte { return unsafe.Slice(unsafe.StringData(s), len(s)) }

// shares says whether two rows have a byte of memory in common, be it behind their lengths.
func shares(a, b []byte) bool {
	if cap(a) == 0 || cap(b) == 0 {
		return false
	}
	one := uintptr(unsafe.Pointer(unsafe.SliceData(a)))
	two := uintptr(unsafe.Pointer(unsafe.SliceData(b)))
	return one < two+uintptr(cap(b)) && two < one+uintptr(cap(a))
}

// apart holds rows that came out against each other, and against those that went in.
func apart(t *testing.T, rows ...[]byte) {
	t.Helper()
	for i, row := range rows {
		for _, other := range rows[:i] {
			if shares(row, other) {
				t.Errorf("%q and %q share their memory", row, other)
			}
		}
	}
}

// The bytes that are appended stay as they were, and so does what stands around them; the file is none of theirs.
func TestWhatIsAppendedIsNotKept(t *testing.T) {
	for _, left := range []int{-1, 0, 1, 3, 5} {
		whole := []byte("ahead of it, bytes, and behind it")
		was := bytes.Clone(whole)
		d := with(t, "x", "ab", "")
		d.Fuse(left)
		b := whole[13:18]
		tells(t, d.Append("x", b), left < 0 || left >= 5, "Append")
		if !bytes.Equal(whole, was) {
			t.Errorf("Append changed what was handed in: %q", whole)
		}
		there := "ab" + "bytes"[:min(uint(left), 5)]
		holds(t, d, "x", there, "ab")
		spoil(whole)
		spoil(was)
		holds(t, d, "x", there, "ab")
		d.Crash(2)
		appends(t, d, "x", "more", true)
		if !bytes.Equal(whole, was) {
			t.Errorf("the disk writes into what was handed in: %q", whole)
		}
	}
}

// A list that a file was made of is not written into when the file grows.
func TestAFileGrowsInMemoryOfItsOwn(t *testing.T) {
	whole := row(100)
	d := disk.New(1000)
	tells(t, d.Append("x", whole[:10]), true, "Append")
	appends(t, d, "x", "more", true)
	tells(t, d.Append("y", whole[:50:50]), true, "Append")
	appends(t, d, "y", "more", true)
	if !bytes.Equal(whole, row(100)) {
		t.Errorf("what was handed in was changed: %q", whole)
	}
	holds(t, d, "x", string(row(10))+"more", "", "y", string(row(50))+"more", "")
}

// A name that is handed in is not kept, whichever call made or found a file by it; nor is it changed.
func TestNamesAreNotKept(t *testing.T) {
	for call, do := range map[string]func(d *disk.Disk, name string) bool{
		"Append of a new file":   func(d *disk.Disk, name string) bool { return d.Drop(name) && d.Append(name, []byte("abc")) },
		"Append of no bytes":     func(d *disk.Disk, name string) bool { return d.Drop(name) && d.Append(name, nil) },
		"Append of one":          func(d *disk.Disk, name string) bool { return d.Append(name, []byte("abc")) },
		"Sync":                   func(d *disk.Disk, name string) bool { return d.Sync(name) },
		"Rename to a new name":   func(d *disk.Disk, name string) bool { return d.Drop(name) && d.Rename("other", name) },
		"Rename in place of one": func(d *disk.Disk, name string) bool { return d.Rename("other", name) },
		"Rename to its own name": func(d *disk.Disk, name string) bool { return d.Rename(name, name) },
	} {
		for _, name := range []string{"x", "name", of(20), "\xff\x00"} {
			d := with(t, name, "12", "3", "other", "4", "56")
			handed, memory := over(name)
			tells(t, do(d, handed), true, call)
			if string(memory) != name {
				t.Errorf("%s: the name %q was changed: %q", call, name, memory)
			}
			want := kept(d)
			for i := range want {
				want[i] = strings.Clone(want[i])
			}
			spoil(memory)
			holds(t, d, want...)
			d.Crash(100)
			if _, is := d.Read(name); !is {
				t.Errorf("%s keeps the name %q that was handed in", call, name)
			}
			drops(t, d, handed, false)
			drops(t, d, name, true)
		}
	}
}

// What comes out may be spoilt: neither the disk, nor what came out ahead of it or comes behind it, is changed.
func TestWhatComesOutIsNew(t *testing.T) {
	d := with(t, "name", "lasting", " bytes", "other", "1", "2")
	want := []string{"name", "lasting bytes", "lasting", "other", "12", "1"}
	handed, _ := over("name")
	var rows [][]byte
	for range 2 {
		b, _ := d.Read(handed)
		rows = append(rows, b, d.Lasting(handed))
		other := d.Copy()
		c, _ := other.Read(handed)
		rows = append(rows, c, other.Lasting(handed))
		for _, name := range append(d.Names(), other.Names()...) {
			rows = append(rows, bytesOf(name))
		}
	}
	apart(t, append(rows, bytesOf(handed))...)
	for _, row := range rows {
		spoil(row[:cap(row)])
	}
	names := d.Names()
	for i := range names[:cap(names)] {
		names[:cap(names)][i] = "spoilt"
	}
	holds(t, d, want...)
	holds(t, d.Copy(), want...)
	again, _ := d.Read("name")
	_ = append(again, "behind"...)
	_ = append(d.Lasting("name"), "behind"...)
	holds(t, d, want...)
}

// A copy has its names and its bytes in memory of its own: what comes out of it is spoilt for it alone.
func TestACopySharesNothing(t *testing.T) {
	d := with(t, "name", "lasting", " bytes")
	other := d.Copy()
	a, b := d.Names()[0], other.Names()[0]
	apart(t, bytesOf(a), bytesOf(b))
	spoil(bytesOf(a))
	holds(t, d, "name", "lasting bytes", "lasting")
	spoil(bytesOf(b))
	holds(t, other, "name", "lasting bytes", "lasting")
}

// What came out ahead of a change is what it was.
func TestWhatCameOutStays(t *testing.T) {
	for name, change := range changes() {
		d := twoFiles(t)
		b, _ := d.Read("x")
		lasting, names := d.Lasting("x"), d.Names()
		change(d)
		if string(b) != "abc" || string(lasting) != "ab" || !slices.Equal(names, []string{"x", "y"}) {
			t.Errorf("%s changed what came out ahead of it: %q, %q, %q", name, b, lasting, names)
		}
	}
}

// What was lost, or cut off, comes not out behind a list's length.
func TestNothingStandsBehindALength(t *testing.T) {
	d := with(t, "x", "ab", "secret")
	d.Crash(0)
	for _, b := range [][]byte{first(d.Read("x")), d.Lasting("x")} {
		if bytes.ContainsAny(b[:cap(b)], "secret") {
			t.Errorf("%q stands behind the bytes of a file", b[:cap(b)])
		}
	}
	d = with(t, "x", "ab", "secret")
	if b := d.Lasting("x"); bytes.ContainsAny(b[:cap(b)], "secret") {
		t.Errorf("%q stands behind what lasts of a file", b[:cap(b)])
	}
}

func first(b []byte, _ bool) []byte { return b }
