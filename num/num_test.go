package num_test

import (
	"bytes"
	"math"
	"math/big"
	"strings"
	"testing"

	"wicketman/num"
)

const greatest = uint64(math.MaxUint64)

// edges are numbers beside which sums and differences go wrong first.
func edges() []uint64 {
	return []uint64{
		0, 1, 2, 5, 254, 255, 256, 257, 65535, 65536, 1<<31 - 1, 1 << 31, 1<<32 - 1, 1 << 32,
		1<<63 - 1, 1 << 63, 1<<63 + 1, greatest - 6, greatest - 5, greatest - 1, greatest,
	}
}

func TestPut(t *testing.T) {
	const n = 0x0102030405060708
	for _, c := range []struct {
		n    uint64
		wide int
		want []byte
	}{
		{258, 3, []byte{0, 1, 2}},
		{258, 2, []byte{1, 2}},
		{258, 1, []byte{2}},
		{258, 0, nil},
		{0, 4, []byte{0, 0, 0, 0}},
		{n, 7, []byte{2, 3, 4, 5, 6, 7, 8}},
		{n, 8, []byte{1, 2, 3, 4, 5, 6, 7, 8}},
		{greatest, 8, bytes.Repeat([]byte{255}, 8)},
		{n, 9, []byte{1, 2, 3, 4, 5, 6, 7, 8}},
		{n, math.MaxInt, []byte{1, 2, 3, 4, 5, 6, 7, 8}},
		{n, -1, nil},
		{n, math.MinInt, nil},
	} {
		if got := num.Put(c.n, c.wide); !bytes.Equal(got, c.want) {
			t.Errorf("Put(%#x, %d): % x, want % x", c.n, c.wide, got, c.want)
		}
	}
}

func TestPutIsNewMemory(t *testing.T) {
	a := num.Put(258, 3)
	a[0] = 9
	if b := num.Put(258, 3); !bytes.Equal(b, []byte{0, 1, 2}) {
		t.Errorf("Put behind a change of what it told: % x", b)
	}
}

func TestGet(t *testing.T) {
	for _, c := range []struct {
		b    []byte
		want uint64
	}{
		{nil, 0},
		{[]byte{}, 0},
		{[]byte{7}, 7},
		{[]byte{255}, 255},
		{[]byte{0, 1, 2}, 258},
		{[]byte{1, 2, 3, 4, 5, 6, 7}, 0x01020304050607},
		{[]byte{1, 2, 3, 4, 5, 6, 7, 8}, 0x0102030405060708},
		{bytes.Repeat([]byte{255}, 8), greatest},
		{[]byte{1, 2, 3, 4, 5, 6, 7, 8, 9}, 0x0203040506070809},
		{append(bytes.Repeat([]byte{255}, 100), 0, 0, 0, 0, 0, 0, 1, 2), 258},
	} {
		if got := num.Get(c.b); got != c.want {
			t.Errorf("Get(% x): %#x, want %#x", c.b, got, c.want)
		}
	}
}

func TestGetLeavesItsBytes(t *testing.T) {
	whole := []byte{1, 2, 3, 4, 5, 6, 7, 8, 9, 10}
	kept := bytes.Clone(whole)
	if got := num.Get(whole[:2]); got != 258 {
		t.Errorf("Get read behind the length: %#x", got)
	}
	num.Get(whole)
	if !bytes.Equal(whole, kept) {
		t.Errorf("Get changed what it was given: % x", whole)
	}
}

func TestThereAndBack(t *testing.T) {
	for _, n := range edges() {
		for wide := range 9 {
			want := n
			if wide < 8 {
				want = n % (1 << (8 * wide))
			}
			if got := num.Get(num.Put(n, wide)); got != want {
				t.Errorf("Get of Put(%#x, %d): %#x, want %#x", n, wide, got, want)
			}
		}
	}
}

func TestAdd(t *testing.T) {
	for _, c := range []struct{ a, b, want uint64 }{
		{0, 0, 0},
		{2, 3, 5},
		{greatest, 0, greatest},
		{0, greatest, greatest},
		{greatest - 5, 5, greatest},
		{greatest - 5, 4, greatest - 1},
		{greatest - 5, 6, greatest},
		{greatest, 5, greatest},
		{5, greatest, greatest},
		{greatest, greatest, greatest},
		{1 << 63, 1 << 63, greatest},
		{1 << 63, 1<<63 - 1, greatest},
		{1 << 63, 1<<63 - 2, greatest - 1},
	} {
		if got := num.Add(c.a, c.b); got != c.want {
			t.Errorf("Add(%d, %d): %d, want %d", c.a, c.b, got, c.want)
		}
	}
}

// TestNoSumGoesRound holds Add against sums that have room for more than 64 bits.
func TestNoSumGoesRound(t *testing.T) {
	for _, a := range edges() {
		for _, b := range edges() {
			want := greatest
			if sum := new(big.Int).Add(whole(a), whole(b)); sum.IsUint64() {
				want = sum.Uint64()
			}
			if got := num.Add(a, b); got != want {
				t.Errorf("Add(%d, %d): %d, want %d", a, b, got, want)
			}
		}
	}
}

func TestPast(t *testing.T) {
	for _, c := range []struct {
		now, then, most uint64
		want            bool
	}{
		{10, 3, 6, true},
		{10, 3, 7, false},
		{10, 3, 8, false},
		{11, 3, 7, true},
		{3, 3, 0, false},
		{4, 3, 0, true},
		{3, 4, 0, false},
		{3, 10, 5, false},
		{0, greatest, 0, false},
		{0, 1, greatest - 1, false},
		{greatest, 0, greatest, false},
		{greatest, 0, greatest - 1, true},
		{greatest, greatest - 1, 0, true},
		{greatest, greatest, 0, false},
		{greatest, greatest - 5, greatest, false},
	} {
		if got := num.Past(c.now, c.then, c.most); got != c.want {
			t.Errorf("Past(%d, %d, %d): %v, want %v", c.now, c.then, c.most, got, c.want)
		}
	}
}

func TestNoDifferenceGoesRound(t *testing.T) {
	for _, now := range edges() {
		for _, then := range edges() {
			for _, most := range edges() {
				between := new(big.Int).Sub(whole(now), whole(then))
				want := between.Cmp(whole(most)) > 0
				if got := num.Past(now, then, most); got != want {
					t.Errorf("Past(%d, %d, %d): %v, want %v", now, then, most, got, want)
				}
			}
		}
	}
}

func TestDecimal(t *testing.T) {
	for _, c := range []struct {
		s    string
		most int
		want int
	}{
		{"042", 50, 42},
		{"0", 0, 0},
		{"7", 7, 7},
		{"9", 10, 9},
		{"10", 10, 10},
		{"4000", 4000, 4000},
		{"000000000", 0, 0},
		{"000000042", 42, 42},
		{"123456789", math.MaxInt, 123456789},
		{"999999999", 999999999, 999999999},
	} {
		if got, ok := num.Decimal(c.s, c.most); got != c.want || !ok {
			t.Errorf("Decimal(%q, %d): %d, %v, want %d, true", c.s, c.most, got, ok, c.want)
		}
	}
}

func TestDecimalRefuses(t *testing.T) {
	for _, c := range []struct {
		why  string
		s    string
		most int
	}{
		{"one above most", "43", 42},
		{"one above most, with noughts ahead", "000000043", 42},
		{"far above most", "999999999", 0},
		{"above a most below 0", "0", -1},
		{"above the least most", "0", math.MinInt},
		{"no digits", "", 50},
		{"ten digits", "1234567890", math.MaxInt},
		{"ten noughts", "0000000000", math.MaxInt},
		{"ten digits, most of them noughts ahead", "0000000042", math.MaxInt},
		{"digits enough to go round", strings.Repeat("9", 100), math.MaxInt},
		{"a minus", "-1", math.MaxInt},
		{"a minus ahead of 0", "-0", math.MaxInt},
		{"a plus", "+1", math.MaxInt},
		{"a blank ahead", " 1", math.MaxInt},
		{"a blank behind", "1 ", math.MaxInt},
		{"a blank between", "1 2", math.MaxInt},
		{"a blank alone", " ", math.MaxInt},
		{"a line's end", "1\r\n", math.MaxInt},
		{"a nought byte", "1\x00", math.MaxInt},
		{"the byte below 0", "1/", math.MaxInt},
		{"the byte above 9", "1:", math.MaxInt},
		{"a letter", "1a", math.MaxInt},
		{"a hexadecimal number", "0x10", math.MaxInt},
		{"an underscore", "1_0", math.MaxInt},
		{"a point", "1.0", math.MaxInt},
		{"an Arabic digit", "\u0663", math.MaxInt},
		{"a wide digit behind others", "1\uff12", math.MaxInt},
		{"a raised digit", "\u00b2", math.MaxInt},
		{"a rune whose lowest byte is a digit's", "\u0131", math.MaxInt},
		{"a byte that is no UTF-8", "1\xff", math.MaxInt},
		{"a byte that is a digit but for its highest bit", "\xb1", math.MaxInt},
		{"the error rune", "\ufffd", math.MaxInt},
	} {
		if got, ok := num.Decimal(c.s, c.most); got != 0 || ok {
			t.Errorf("%s: Decimal(%q, %d): %d, %v, want 0, false", c.why, c.s, c.most, got, ok)
		}
	}
}

// TestDecimalOfOneByte has each byte alone: just ten of them are digits.
func TestDecimalOfOneByte(t *testing.T) {
	for c := range 256 {
		got, ok := num.Decimal(string([]byte{byte(c)}), 9)
		digit := c >= '0' && c <= '9'
		if ok != digit || digit && got != c-'0' || !digit && got != 0 {
			t.Errorf("Decimal of the byte %#02x: %d, %v", c, got, ok)
		}
	}
}

func whole(n uint64) *big.Int { return new(big.Int).SetUint64(n) }
