package crc_test

import (
	"bytes"
	"encoding/binary"
	"math/rand"
	"slices"
	"testing"

	"wicketman/crc"
)

// next is the frame that bytes begin with, told by the library.
func next(b []byte) (uint64, []byte, int) {
	if len(b) < ofHead {
		return 0, nil, 0
	}
	long := int64(binary.BigEndian.Uint32(b))
	if long > most || ofHead+long > int64(len(b)) {
		return 0, nil, 0
	}
	seq, row := binary.BigEndian.Uint64(b[4:]), b[ofHead:ofHead+long]
	if !bytes.HasPrefix(b, wants(seq, row)) {
		return 0, nil, 0
	}
	return seq, row, ofHead + int(long)
}

// all are the frames as the chapter tells them, one by one.
func all(b []byte, seq uint64) ([][]byte, int) {
	number, row, size := next(b)
	if size == 0 || number != seq {
		return nil, 0
	}
	rows, n := all(b[size:], seq+1)
	return append([][]byte{row}, rows...), size + n
}

func same(a, b [][]byte) bool {
	return slices.EqualFunc(a, b, func(x, y []byte) bool { return bytes.Equal(x, y) })
}

func tells(t *testing.T, b []byte, seq uint64, rows [][]byte, size int) {
	t.Helper()
	if got, n := crc.All(b, seq); !same(got, rows) || n != size {
		t.Errorf("All of %x .. (%d) from %d: %d frames, %.40q, %d, want %d frames, %.40q, %d", short(b), len(b), seq, len(got), got, n, len(rows), rows, size)
	}
}

// line is frames of these numbers, one behind the other: the first one has "a", the second "bb", and so on.
func line(numbers ...uint64) []byte {
	var out []byte
	for i, seq := range numbers {
		out = append(out, wants(seq, things(i + 1)[i])...)
	}
	return out
}

// things are the bytes of the first n frames of a line.
func things(n int) [][]byte {
	var rows [][]byte
	for i := range n {
		rows = append(rows, bytes.Repeat([]byte{byte('a' + i)}, i+1))
	}
	return rows
}

// sizeOf is how many bytes the first n frames of a line have.
func sizeOf(n int) int { return n*ofHead + n*(n+1)/2 }

func TestAll(t *testing.T) {
	a, b, c := framed(t, 5, []byte("one")), framed(t, 6, nil), framed(t, 7, []byte("three"))
	tells(t, slices.Concat(a, b, c), 5, [][]byte{[]byte("one"), nil, []byte("three")}, 16+3+16+16+5)
	tells(t, a, 5, [][]byte{[]byte("one")}, 19)
	tells(t, b, 6, [][]byte{nil}, 16)
	tells(t, slices.Concat(b, c), 6, [][]byte{nil, []byte("three")}, 16+16+5)
}

func TestAllOfNoFrame(t *testing.T) {
	for _, seq := range numbers() {
		for _, b := range [][]byte{nil, {}, {0}, row(15), row(16), row(100), make([]byte, 16), make([]byte, 1000), bytes.Repeat([]byte{255}, 100), []byte("no frame at all, but bytes")} {
			tells(t, b, seq, nil, 0)
		}
	}
}

// Several that rise by one are told from the first number on, and from no other one.
func TestAllFromEachNumber(t *testing.T) {
	for _, seq := range numbers() {
		for n := 1; n < 6; n++ {
			var rising []uint64
			for i := range n {
				rising = append(rising, seq+uint64(i))
			}
			b := line(rising...)
			tells(t, b, seq, things(n), sizeOf(n))
			for _, other := range []uint64{seq + 1, seq - 1, seq + 2, seq + 256, seq + 1<<32, seq ^ 1<<63, ^seq} {
				tells(t, b, other, nil, 0)
			}
		}
	}
}

func TestAllOfOtherNumbers(t *testing.T) {
	for name, c := range map[string]struct {
		numbers []uint64
		n       int
	}{
		"one left out":               {[]uint64{3, 4, 6, 7}, 2},
		"one left out, first":        {[]uint64{4, 5, 6}, 0},
		"one twice":                  {[]uint64{3, 4, 4, 5}, 2},
		"the first one twice":        {[]uint64{3, 3, 4, 5}, 1},
		"falling":                    {[]uint64{3, 2, 1}, 1},
		"back to the first":          {[]uint64{3, 4, 5, 3, 4}, 3},
		"back to 0":                  {[]uint64{3, 4, 0, 1}, 2},
		"two changed about":          {[]uint64{3, 5, 4, 6}, 1},
		"one far off, then going on": {[]uint64{3, 4, 1 << 40, 5, 6}, 2},
		"as great in four bytes":     {[]uint64{3, 4, 5 + 1<<32, 6}, 2},
		"as great in seven bytes":    {[]uint64{3, 4, 5 + 1<<56, 6}, 2},
		"all rising":                 {[]uint64{3, 4, 5, 6, 7, 8}, 6},
	} {
		if got, n := crc.All(line(c.numbers...), 3); !same(got, things(c.n)) || n != sizeOf(c.n) {
			t.Errorf("%s: All of frames %d from 3: %q, %d, want %d frames, %d", name, c.numbers, got, n, c.n, sizeOf(c.n))
		}
	}
}

// The greatest number is followed by 0, and by nothing else.
func TestAllGoesRound(t *testing.T) {
	tells(t, line(greatest, 0), greatest, things(2), sizeOf(2))
	tells(t, line(greatest, 0, 1, 2), greatest, things(4), sizeOf(4))
	tells(t, line(greatest-1, greatest, 0, 1), greatest-1, things(4), sizeOf(4))
	tells(t, line(greatest, 1), greatest, things(1), sizeOf(1))
	tells(t, line(greatest, greatest), greatest, things(1), sizeOf(1))
	tells(t, line(greatest-1, 0), greatest-1, things(1), sizeOf(1))
	tells(t, line(1<<63-1, 1<<63), 1<<63-1, things(2), sizeOf(2))
	tells(t, line(1<<32-1, 1<<32), 1<<32-1, things(2), sizeOf(2))
	tells(t, line(1<<32-1, 0), 1<<32-1, things(1), sizeOf(1))
}

// A tail that is cut short is none: as many are told as stand there whole.
func TestAllOfACutTail(t *testing.T) {
	b := line(3, 4, 5, 6)
	for cut := range len(b) + 1 {
		whole := 0
		for sizeOf(whole+1) <= cut && whole < 4 {
			whole++
		}
		tells(t, b[:cut], 3, things(whole), sizeOf(whole))
		tells(t, bytes.Clone(b[:cut]), 3, things(whole), sizeOf(whole))
	}
}

// Behind the frames may stand what is none: it is not among the bytes that are told.
func TestAllWithBytesBehind(t *testing.T) {
	b := line(3, 4, 5)
	for _, behind := range [][]byte{{0}, {255}, row(15), row(16), row(17), row(70000), make([]byte, 40), wants(3, nil), wants(7, []byte("x")), wants(6, []byte("x"))[1:], wants(6, row(most+1))} {
		tells(t, slices.Concat(b, behind), 3, things(3), sizeOf(3))
	}
}

// Any one bit of a frame between ends what is told: nothing behind it is read.
func TestAllEndsAtAWrongFrame(t *testing.T) {
	b := line(3, 4, 5, 6, 7)
	for i := range 8 * len(b) {
		whole := 0
		for sizeOf(whole+1) <= i/8 {
			whole++
		}
		b[i/8] ^= 1 << (i % 8)
		tells(t, b, 3, things(whole), sizeOf(whole))
		b[i/8] ^= 1 << (i % 8)
	}
	tells(t, b, 3, things(5), sizeOf(5))
}

// Behind a frame whose sum is wrong stand whole ones, with the numbers that come next: none of them is told.
func TestAllReadsNothingBehind(t *testing.T) {
	one, two, three := wants(3, []byte("a")), wants(4, []byte("bb")), wants(5, []byte("ccc"))
	wrong := written(2, 4, []byte("bb"), 1)
	for _, b := range [][]byte{
		slices.Concat(one, wrong, three),
		slices.Concat(one, wrong, two, three),
		slices.Concat(one, []byte{0}, two, three),
		slices.Concat(one, wants(9, nil), two, three),
		slices.Concat(one, one, two, three),
		slices.Concat(one, two[:len(two)-1], two, three),
		slices.Concat(one, two[1:], two, three),
	} {
		tells(t, b, 3, things(1), sizeOf(1))
	}
	for _, b := range [][]byte{
		slices.Concat(wrong, one, two, three),
		slices.Concat([]byte{0}, one, two, three),
		slices.Concat(one[1:], one, two, three),
	} {
		tells(t, b, 3, nil, 0)
	}
}

// Bytes that are a frame themselves are bytes.
func TestAllOfAFrameOfFrames(t *testing.T) {
	inner := line(4, 5)
	b := slices.Concat(wants(3, inner), wants(4, wants(5, nil)))
	tells(t, b, 3, [][]byte{inner, wants(5, nil)}, len(b))
}

func TestAllOfManyAndOfMost(t *testing.T) {
	var b []byte
	var rows [][]byte
	for i := range 3000 {
		rows = append(rows, row(i%7))
		b = append(b, wants(uint64(i)+250, row(i%7))...)
	}
	tells(t, b, 250, rows, len(b))
	b = slices.Concat(wants(0, row(most)), wants(1, row(most)), wants(2, row(most+1)), wants(3, nil))
	tells(t, b, 0, [][]byte{row(most), row(most)}, 2*(ofHead+most))
}

// What one call told is nothing to the next one: the same bytes tell the same again.
func TestAllTwice(t *testing.T) {
	b := line(3, 4, 5)
	for range 3 {
		tells(t, b, 3, things(3), sizeOf(3))
		tells(t, b, 4, nil, 0)
		begins(t, b, 3, []byte("a"), 17)
	}
}

// Of lines by chance, with numbers that mostly rise, and now and then a byte that is another one.
func TestAllByChance(t *testing.T) {
	draw := rand.New(rand.NewSource(1302))
	told := 0
	for range 3000 {
		first := numbers()[draw.Intn(len(numbers()))]
		seq := first
		var b []byte
		for range draw.Intn(8) {
			b = append(b, wants(seq, anything(draw, 20))...)
			if draw.Intn(6) > 0 {
				seq++
			}
		}
		b = append(b, anything(draw, 3)...)
		if len(b) > 0 && draw.Intn(2) == 0 {
			b[draw.Intn(len(b))] ^= byte(1 + draw.Intn(255))
		}
		rows, size := all(b, first)
		tells(t, b, first, rows, size)
		told += len(rows)
	}
	if told < 3000 {
		t.Errorf("only %d frames were told", told)
	}
}
