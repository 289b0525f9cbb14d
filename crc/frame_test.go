package crc_test

import (
	"bytes"
	"math/rand"
	"testing"

	"wicketman/api"
	"wicketman/crc"
)

// numbers are those at whose edges a number of eight bytes may go wrong.
func numbers() []uint64 {
	return []uint64{
		0, 1, 2, 255, 256, 65535, 65536, 1<<31 - 1, 1 << 31, 1<<32 - 1, 1 << 32, 1<<56 + 1,
		0x0102030405060708, 1<<63 - 1, 1 << 63, greatest - 1, greatest,
	}
}

func frames(t *testing.T, seq uint64, b []byte) {
	t.Helper()
	got, e := crc.Frame(seq, b)
	if want := wants(seq, b); e != api.OK || !bytes.Equal(got, want) {
		t.Errorf("Frame of %d and %d bytes: %x .. (%d), %v, want %x .. (%d), OK", seq, len(b), short(got), len(got), e, short(want), len(want))
	}
}

// Written out by hand: the length in four bytes, the number in eight, the sum in four, and the bytes.
func TestFrame(t *testing.T) {
	for _, c := range []struct {
		seq  uint64
		b    string
		want string
	}{
		{1, "a", "\x00\x00\x00\x01" + "\x00\x00\x00\x00\x00\x00\x00\x01" + "\xc3\x18\x4d\x33" + "a"},
		{0, "", "\x00\x00\x00\x00" + "\x00\x00\x00\x00\x00\x00\x00\x00" + "\x7b\xd5\xc6\x6f"},
		{0x0102030405060708, "abc", "\x00\x00\x00\x03" + "\x01\x02\x03\x04\x05\x06\x07\x08" + "\xe1\x61\x4c\x40" + "abc"},
		{greatest, "\x00", "\x00\x00\x00\x01" + "\xff\xff\xff\xff\xff\xff\xff\xff" + "\xc0\x9d\xce\x0f" + "\x00"},
	} {
		if got, e := crc.Frame(c.seq, []byte(c.b)); string(got) != c.want || e != api.OK {
			t.Errorf("Frame of %d and %q: %x, %v, want %x, OK", c.seq, c.b, got, e, c.want)
		}
		frames(t, c.seq, []byte(c.b))
	}
}

// The sum is that of the twelve bytes ahead of it, and the bytes behind it.
func TestFrameHasTheSumOfBoth(t *testing.T) {
	for n := range 50 {
		f := framed(t, uint64(n)<<33, row(n))
		both := append(bytes.Clone(f[:12]), f[ofHead:]...)
		sum := crc.Sum(both)
		if got := uint32(f[12])<<24 | uint32(f[13])<<16 | uint32(f[14])<<8 | uint32(f[15]); got != sum {
			t.Errorf("a Frame of %d bytes has the sum %08x, want %08x", n, got, sum)
		}
		if len(f) != ofHead+n || !bytes.Equal(f[ofHead:], row(n)) {
			t.Errorf("a Frame of %d bytes is %x", n, f)
		}
	}
}

func TestFrameOfNoBytes(t *testing.T) {
	for _, seq := range numbers() {
		for _, b := range [][]byte{nil, {}, row(5)[2:2]} {
			frames(t, seq, b)
		}
	}
}

func TestFrameOfNumbersAndRows(t *testing.T) {
	for _, seq := range numbers() {
		for _, n := range []int{1, 2, 15, 16, 17, 255, 256, 257} {
			frames(t, seq, row(n))
		}
		frames(t, seq, every())
	}
	draw := rand.New(rand.NewSource(1300))
	for range 300 {
		frames(t, draw.Uint64(), anything(draw, 500))
	}
}

// So many bytes as there may be are framed; one more, and any number more, are refused.
func TestFrameOfMost(t *testing.T) {
	for _, seq := range []uint64{0, 1, greatest} {
		for _, n := range []int{most - 257, most - 1, most} {
			frames(t, seq, row(n))
		}
		for _, n := range []int{most + 1, most + 2, 2 * most, 2*most + 1, 1 << 20} {
			if got, e := crc.Frame(seq, row(n)); len(got) != 0 || e != api.ErrLong {
				t.Errorf("Frame of %d and %d bytes: %d bytes, %v, want nothing, ErrLong", seq, n, len(got), e)
			}
		}
	}
	if api.ErrLong != 3 || api.MaxFrame != most {
		t.Errorf("ErrLong is %d, MaxFrame %d", api.ErrLong, api.MaxFrame)
	}
}
