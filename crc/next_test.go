package crc_test

import (
	"bytes"
	"math/rand"
	"slices"
	"testing"

	"wicketman/crc"
)

func begins(t *testing.T, b []byte, seq uint64, row []byte, size int) {
	t.Helper()
	if s, r, n := crc.Next(b); s != seq || !bytes.Equal(r, row) || n != size {
		t.Errorf("Next of %x .. (%d): %d, %x .. (%d), %d, want %d, %x .. (%d), %d", short(b), len(b), s, short(r), len(r), n, seq, short(row), len(row), size)
	}
}

// beginsNone holds all three answers where there is no frame.
func beginsNone(t *testing.T, b []byte) {
	t.Helper()
	begins(t, b, 0, nil, 0)
	if all, n := crc.All(b, 1); len(all) != 0 || n != 0 {
		t.Errorf("All of %x .. (%d), which begins with no frame: %d frames, %d", short(b), len(b), len(all), n)
	}
}

func TestNext(t *testing.T) {
	begins(t, framed(t, 1, []byte("a")), 1, []byte("a"), 17)
	begins(t, wants(0x0102030405060708, []byte("abc")), 0x0102030405060708, []byte("abc"), 19)
	for _, seq := range numbers() {
		for _, n := range []int{0, 1, 2, 15, 16, 17, 255, 256, 257} {
			begins(t, wants(seq, row(n)), seq, row(n), ofHead+n)
		}
		begins(t, wants(seq, every()), seq, every(), ofHead+256)
	}
}

// The frame of no bytes and number 0 is one: how many bytes it has tells it from none.
func TestNextOfNoBytesIsAFrame(t *testing.T) {
	begins(t, framed(t, 0, nil), 0, nil, ofHead)
	begins(t, append(framed(t, 0, nil), 0), 0, nil, ofHead)
}

func TestNextOfMost(t *testing.T) {
	for _, n := range []int{most - 1, most} {
		begins(t, framed(t, greatest, row(n)), greatest, row(n), ofHead+n)
		begins(t, append(framed(t, 7, row(n)), row(9)...), 7, row(n), ofHead+n)
		beginsNone(t, framed(t, 1, row(n))[:ofHead+n-1])
	}
}

// What stands behind a frame, another one or no frame at all, changes nothing.
func TestNextWithBytesBehind(t *testing.T) {
	for _, n := range []int{0, 1, 40} {
		f := wants(9, row(n))
		for _, behind := range [][]byte{{0}, {255}, []byte("a"), row(15), row(16), row(70000), every(), f, wants(10, row(3)), f[:len(f)-1], f[1:], make([]byte, 100)} {
			begins(t, slices.Concat(f, behind), 9, row(n), ofHead+n)
		}
		for _, c := range every() {
			begins(t, append(bytes.Clone(f), c), 9, row(n), ofHead+n)
		}
	}
}

// A frame is one where it begins, not behind other bytes.
func TestNextLooksNotForAFrame(t *testing.T) {
	for _, c := range every() {
		beginsNone(t, append([]byte{c}, wants(1, []byte("ab"))...))
	}
	for n := 1; n < 40; n++ {
		beginsNone(t, append(row(n), wants(1, []byte("ab"))...))
		beginsNone(t, append(make([]byte, n), wants(1, []byte("ab"))...))
	}
}

func TestNextOfTooFew(t *testing.T) {
	beginsNone(t, nil)
	beginsNone(t, []byte{})
	empty := wants(0, nil)
	for n := range ofHead {
		beginsNone(t, make([]byte, n))
		beginsNone(t, bytes.Repeat([]byte{255}, n))
		beginsNone(t, row(n))
		beginsNone(t, empty[:n])
	}
	begins(t, empty, 0, nil, ofHead)
	beginsNone(t, make([]byte, ofHead))
	beginsNone(t, bytes.Repeat([]byte{255}, ofHead))
	beginsNone(t, row(ofHead))
	beginsNone(t, make([]byte, 100))
}

// A frame that is cut short is none, wherever it is cut, and whatever stands behind the cut in its memory.
func TestNextOfACutFrame(t *testing.T) {
	for _, n := range []int{0, 1, 2, 16, 100, 300} {
		f := wants(1, row(n))
		for cut := range f {
			beginsNone(t, f[:cut])
			beginsNone(t, bytes.Clone(f[:cut]))
			beginsNone(t, f[:cut:cut])
		}
		begins(t, f, 1, row(n), len(f))
		for cut := 1; cut < len(f); cut++ {
			beginsNone(t, f[cut:])
		}
	}
}

// A byte that is left out is not made up for by one behind.
func TestNextOfAFrameWithAByteLeftOut(t *testing.T) {
	f := wants(1, []byte("some bytes"))
	for i := range f {
		rest := append(bytes.Clone(f[:i]), f[i+1:]...)
		beginsNone(t, rest)
		beginsNone(t, append(rest, every()...))
	}
}

// Any one bit of a frame is told: of its length, its number, its sum and its bytes.
func TestNextTellsABit(t *testing.T) {
	for _, n := range []int{0, 1, 2, 30, 256} {
		for _, behind := range [][]byte{nil, row(70000)} {
			f := append(wants(1, row(n)), behind...)
			for i := range 8 * (ofHead + n) {
				f[i/8] ^= 1 << (i % 8)
				beginsNone(t, f)
				f[i/8] ^= 1 << (i % 8)
			}
			begins(t, f, 1, row(n), ofHead+n)
		}
	}
}

// So is any other byte in place of one.
func TestNextTellsAByte(t *testing.T) {
	f := wants(1, []byte("abc"))
	for i, was := range f {
		for _, c := range every() {
			f[i] = c
			if c != was {
				beginsNone(t, f)
			}
		}
		f[i] = was
	}
}

// The sum is held as a whole: no part of it alone will do.
func TestNextHoldsTheWholeSum(t *testing.T) {
	for _, wrong := range []uint32{1, 0xff, 0x100, 0xffff, 0x10000, 0xff0000, 0x1000000, 0xff000000, 0xffffffff, 0x80000000} {
		beginsNone(t, written(3, 1, []byte("abc"), wrong))
	}
	b := []byte("abc")
	sumOfBytes := crc.Sum(b)
	f := wants(1, b)
	for _, sum := range []uint32{sumOfBytes, crc.Sum(f[:12]), ^crc.Sum(append(bytes.Clone(f[:12]), b...)), crc.Sum(append(bytes.Clone(b), f[:12]...)), 0} {
		other := bytes.Clone(f)
		other[12], other[13], other[14], other[15] = byte(sum>>24), byte(sum>>16), byte(sum>>8), byte(sum)
		beginsNone(t, other)
	}
}

// A number or a length that stands there with the smallest byte first is another one.
func TestNextReadsTheGreatestByteFirst(t *testing.T) {
	f := wants(1, row(3))
	for _, part := range [][]byte{f[:4], f[4:12], f[12:16]} {
		slices.Reverse(part)
		beginsNone(t, f)
		slices.Reverse(part)
	}
	begins(t, f, 1, row(3), 19)
}

// A length of more than there is, the sum being that of what is there.
func TestNextOfALengthOfMore(t *testing.T) {
	for _, n := range []int{0, 1, 50} {
		for _, length := range []uint32{uint32(n) + 1, uint32(n) + 2, uint32(n) + 16, 255, 256, most - 1, most, most + 1, 1 << 24, 1<<31 - 1, 1 << 31, 1<<32 - 17, 1<<32 - 16, 1<<32 - 1} {
			beginsNone(t, written(length, 1, row(n), 0))
			beginsNone(t, written(length, 0, row(n), 0))
		}
	}
}

// A length of less than was framed: the sum holds for none.
func TestNextOfALengthOfLess(t *testing.T) {
	for length := range uint32(50) {
		beginsNone(t, written(length, 1, row(50), 0))
	}
	f := append(written(2, 1, []byte("ab"), 0), "c"...)
	begins(t, f, 1, []byte("ab"), 18)
}

// What Frame makes not is no frame, be its bytes all there and its sum right.
func TestNextOfMoreThanMost(t *testing.T) {
	for _, n := range []int{most + 1, most + 2, 2 * most, 1 << 20} {
		beginsNone(t, wants(1, row(n)))
		beginsNone(t, append(wants(1, row(n)), row(most)...))
	}
	// Of a number that is cut to its lower bytes, most would be left.
	beginsNone(t, written(1<<16|3, 1, []byte("abc"), 0))
	beginsNone(t, written(1<<17, 1, row(1<<17), 0))
	beginsNone(t, written(1<<24, 1, nil, 0))
}

// What was framed is read again; bytes of any kind are a frame just where the model says so.
func TestNextIsFramesWayBack(t *testing.T) {
	draw := rand.New(rand.NewSource(1301))
	for range 500 {
		seq, b, behind := draw.Uint64(), anything(draw, 300), anything(draw, 300)
		begins(t, append(framed(t, seq, b), behind...), seq, b, ofHead+len(b))
	}
	for range 2000 {
		b := anything(draw, 60)
		for i := range min(3, len(b)) {
			b[i] = 0
		}
		seq, row, size := next(b)
		begins(t, b, seq, row, size)
	}
}
