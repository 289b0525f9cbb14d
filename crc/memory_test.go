package crc_test

import (
	"bytes"
	"slices"
	"testing"
	"unsafe"

	"wicketman/crc"
)

func spoil(b []byte) {
	for i := range b {
		b[i] ^= 0x15
	}
}

// shares says whether two rows have a byte of memory in common, be it behind their lengths.
func shares(a, b []byte) bool {
	if cap(a) == 0 || cap(b) == 0 {
		return false
	}
	one := uintptr(unsafe.Pointer(unsafe.SliceData(a)))
	two := uintptr(unsafe.Pointer(unsafe.SliceData(b)))
	return one < two+uintptr(cap(b)) && two < one+uintptr(cap(a))
}

// apart holds rows that came out against each other, and against those that went in.
func apart(t *testing.T, rows ...[]byte) {
	t.Helper()
	for i, row := range rows {
		for _, other := range rows[:i] {
			if shares(row, other) {
				t.Errorf("%.40q and %.40q share their memory", row, other)
			}
		}
	}
}

// stays holds that a call changes nothing of what it is handed, nor of what stands around that.
func stays(t *testing.T, name string, b []byte, call func(b []byte)) {
	t.Helper()
	whole := slices.Concat([]byte("ahead of it"), b, []byte("and behind it"))
	was := bytes.Clone(whole)
	from, to := len("ahead of it"), len("ahead of it")+len(b)
	call(whole[from:to])
	call(whole[from:to:to])
	if !bytes.Equal(whole, was) {
		t.Errorf("%s changed what was handed in: %.80q", name, whole)
	}
}

func TestWhatIsHandedInStays(t *testing.T) {
	for _, b := range [][]byte{nil, {0}, []byte("abc"), row(100), every(), row(most), row(most + 1), wants(3, nil), line(3, 4, 5), line(3, 4, 5)[:40], written(9, 3, row(5), 0)} {
		stays(t, "Sum", b, func(b []byte) { crc.Sum(b) })
		stays(t, "Frame", b, func(b []byte) { crc.Frame(3, b) })
		stays(t, "Next", b, func(b []byte) { crc.Next(b) })
		stays(t, "All", b, func(b []byte) { crc.All(b, 3) })
	}
}

// What came out is what it was, whatever becomes of what was handed in.
func TestWhatIsHandedInIsNotKept(t *testing.T) {
	for _, n := range []int{0, 1, 16, 300, most} {
		b := row(n)
		f := framed(t, 3, b)
		apart(t, f, b)
		spoil(b)
		if !bytes.Equal(f, wants(3, row(n))) {
			t.Errorf("a Frame of %d bytes keeps what was handed in", n)
		}
		_, out, size := crc.Next(f)
		rows, _ := crc.All(f, 3)
		if len(rows) != 1 {
			t.Fatalf("All of a frame: %d frames", len(rows))
		}
		apart(t, f, out, rows[0])
		spoil(f[:cap(f)])
		if !bytes.Equal(out, row(n)) || !bytes.Equal(rows[0], row(n)) || size != ofHead+n {
			t.Errorf("what Next or All told of %d bytes is what was handed in", n)
		}
	}
	b := line(3, 4, 5)
	rows, _ := crc.All(b, 3)
	spoil(b)
	if !same(rows, things(3)) {
		t.Errorf("All keeps what was handed in: %q", rows)
	}
}

// What comes out may be spoilt: nothing that was handed in, or came out ahead of it or comes behind it, is changed.
func TestWhatComesOutIsNew(t *testing.T) {
	b, text := line(3, 4, 5), row(20)
	was := bytes.Clone(b)
	out := [][]byte{b, text}
	for range 3 {
		_, r, _ := crc.Next(b)
		rows, _ := crc.All(b, 3)
		if !bytes.Equal(r, []byte("a")) || !same(rows, things(3)) {
			t.Errorf("behind what was spoilt, Next told %q, All %q", r, rows)
		}
		fresh := append([][]byte{framed(t, 3, text), framed(t, 3, nil), r}, rows...)
		out = append(out, fresh...)
		apart(t, out...)
		for _, r := range fresh {
			spoil(r[:cap(r)])
		}
		for i := range rows[:cap(rows)] {
			rows[:cap(rows)][i] = []byte("spoilt")
		}
	}
	if !bytes.Equal(b, was) || !bytes.Equal(text, row(20)) {
		t.Error("what was handed in was changed by spoiling what came out")
	}
}

// The rows of one answer are apart: one that grows runs into no other.
func TestRowsGrowApart(t *testing.T) {
	rows, _ := crc.All(line(3, 4, 5), 3)
	for _, r := range rows {
		_ = append(r, "and more than there was"...)
	}
	if !same(rows, things(3)) {
		t.Errorf("rows run into one another: %q", rows)
	}
}

// What stands behind a list's length is neither read, nor handed out behind one.
func TestNothingStandsBehindALength(t *testing.T) {
	whole := append(line(3, 4), "SECRETS BEHIND"...)
	for cut := range len(whole) {
		_, r, _ := crc.Next(whole[:cut])
		rows, _ := crc.All(whole[:cut], 3)
		for _, r := range append(rows, r) {
			if behind := r[len(r):cap(r)]; len(bytes.Trim(behind, "\x00")) > 0 {
				t.Errorf("%q stands behind %q", behind, r)
			}
		}
	}
	text := []byte("a text, and SECRETS")
	f := framed(t, 1, text[:6])
	if behind := f[len(f):cap(f)]; len(bytes.Trim(behind, "\x00")) > 0 {
		t.Errorf("%q stands behind a frame", behind)
	}
	rows, _ := crc.All(line(3, 4, 5, 9), 3)
	for _, r := range rows[len(rows):cap(rows)] {
		if r != nil {
			t.Errorf("%q stands behind the rows", r)
		}
	}
	for cut := range text {
		if crc.Sum(text[:cut]) != crc.Sum(bytes.Clone(text[:cut])) {
			t.Errorf("Sum reads behind %q", text[:cut])
		}
	}
}
