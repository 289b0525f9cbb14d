package crc_test

import (
	"bytes"
	"encoding/binary"
	"hash/crc32"
	"math/rand"
	"testing"

	"wicketman/api"
	"wicketman/crc"
)

const (
	ofHead   = 16
	most     = 65536
	greatest = 1<<64 - 1
)

// row is n bytes that differ from their neighbours.
func row(n int) []byte {
	b := make([]byte, n)
	for i := range b {
		b[i] = byte(i*23 + i>>8 + 7)
	}
	return b
}

// every is each byte there is, once.
func every() []byte {
	b := make([]byte, 256)
	for i := range b {
		b[i] = byte(i)
	}
	return b
}

func anything(draw *rand.Rand, most int) []byte {
	b := make([]byte, draw.Intn(most+1))
	draw.Read(b)
	return b
}

// written is the frame as the chapter lays it out, with the library's sum, and with a length and a sum that may be wrong.
func written(length uint32, seq uint64, b []byte, wrong uint32) []byte {
	out := binary.BigEndian.AppendUint32(nil, length)
	out = binary.BigEndian.AppendUint64(out, seq)
	sum := crc32.Update(crc32.ChecksumIEEE(out), crc32.IEEETable, b)
	out = binary.BigEndian.AppendUint32(out, sum^wrong)
	return append(out, b...)
}

// wants is the frame that is asked for.
func wants(seq uint64, b []byte) []byte { return written(uint32(len(b)), seq, b, 0) }

// framed is what Frame answers where it can't refuse.
func framed(t *testing.T, seq uint64, b []byte) []byte {
	t.Helper()
	f, e := crc.Frame(seq, b)
	if e != api.OK {
		t.Fatalf("Frame of %d and %d bytes: %v", seq, len(b), e)
	}
	return f
}

// short is as much of a row as a failing test tells.
func short(b []byte) []byte { return b[:min(len(b), 40)] }

func TestTheChapter(t *testing.T) {
	if got := crc.Sum([]byte("123456789")); got != 0xcbf43926 {
		t.Errorf("Sum of 123456789: %08x", got)
	}
}

func TestSum(t *testing.T) {
	for _, c := range []struct {
		b    string
		want uint32
	}{
		{"", 0},
		{"a", 0xe8b7be43},
		{"b", 0x71beeff9},
		{"ab", 0x9e83486d},
		{"ba", 0x2ca74a14},
		{"abc", 0x352441c2},
		{"\x00", 0xd202ef8d},
		{"\x00\x00", 0x41d912ff},
		{"\x00\x00\x00\x00", 0x2144df1c},
		{"\x01", 0xa505df1b},
		{"\x80", 0x3fba6cad},
		{"\xff", 0xff000000},
		{"\xff\xff", 0xffff0000},
		{"\xff\xff\xff\xff", 0xffffffff},
		{"message digest", 0x20159d7f},
		{"abcdefghijklmnopqrstuvwxyz", 0x4c2750bd},
		{"The quick brown fox jumps over the lazy dog", 0x414fa339},
	} {
		if got := crc.Sum([]byte(c.b)); got != c.want {
			t.Errorf("Sum of %q: %08x, want %08x", c.b, got, c.want)
		}
	}
}

func TestSumOfNothing(t *testing.T) {
	for _, b := range [][]byte{nil, {}, row(9)[:0], row(9)[4:4]} {
		if got := crc.Sum(b); got != 0 {
			t.Errorf("Sum of no bytes: %08x", got)
		}
	}
}

// Each byte alone has its sum, and no two have one.
func TestSumOfEachByte(t *testing.T) {
	of := map[uint32]byte{}
	for _, c := range every() {
		got := crc.Sum([]byte{c})
		if want := crc32.ChecksumIEEE([]byte{c}); got != want {
			t.Errorf("Sum of the byte %d: %08x, want %08x", c, got, want)
		}
		if other, is := of[got]; is {
			t.Errorf("Sum of the bytes %d and %d: %08x", other, c, got)
		}
		of[got] = c
	}
	if got := crc.Sum(every()); got != 0x29058c73 {
		t.Errorf("Sum of all bytes: %08x", got)
	}
}

// Each length there is up to some hundreds, and long ones.
func TestSumOfRows(t *testing.T) {
	for _, of := range []func(n int) []byte{
		row,
		func(n int) []byte { return bytes.Repeat([]byte{0}, n) },
		func(n int) []byte { return bytes.Repeat([]byte{255}, n) },
	} {
		for n := range 300 {
			sumsAs(t, of(n))
		}
		for _, n := range []int{1000, 4095, 4096, 4097, most - 1, most, most + 1, 1 << 20} {
			sumsAs(t, of(n))
		}
	}
	draw := rand.New(rand.NewSource(13))
	for range 300 {
		sumsAs(t, anything(draw, 2000))
	}
}

func sumsAs(t *testing.T, b []byte) {
	t.Helper()
	if got, want := crc.Sum(b), crc32.ChecksumIEEE(b); got != want {
		t.Errorf("Sum of %d bytes, %x ..: %08x, want %08x", len(b), short(b), got, want)
	}
}

// Any one bit that is another one makes another sum, and so does the order.
func TestSumTellsABit(t *testing.T) {
	for _, n := range []int{1, 2, 9, 64} {
		b := row(n)
		was := crc.Sum(b)
		for i := range 8 * n {
			b[i/8] ^= 1 << (i % 8)
			if crc.Sum(b) == was {
				t.Errorf("Sum of %d bytes is the same without bit %d", n, i)
			}
			b[i/8] ^= 1 << (i % 8)
		}
		if n > 1 {
			b[0], b[1] = b[1], b[0]
			if crc.Sum(b) == was {
				t.Errorf("Sum of %d bytes is the same in another order", n)
			}
		}
	}
}

// A sum hangs on its bytes alone: no sum of ahead is in it.
func TestSumsKnowNothingOfOneAnother(t *testing.T) {
	for range 3 {
		for _, b := range []string{"123456789", "", "a", "123456789"} {
			want := crc32.ChecksumIEEE([]byte(b))
			if got := crc.Sum([]byte(b)); got != want {
				t.Errorf("Sum of %q behind others: %08x, want %08x", b, got, want)
			}
		}
		crc.Next(framed(t, 5, []byte("abc")))
	}
}
