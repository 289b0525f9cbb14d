package sha_test

import (
	"bytes"
	"crypto/sha256"
	"encoding/binary"
	"encoding/hex"
	"math"
	"math/big"
	"math/rand"
	"strings"
	"testing"

	"wicketman/sha"
)

// firstWords stand here once more, so that a wrong one in the package is seen.
func firstWords() [8]uint32 {
	return [8]uint32{
		0x6a09e667, 0xbb67ae85, 0x3c6ef372, 0xa54ff53a, 0x510e527f, 0x9b05688c, 0x1f83d9ab, 0x5be0cd19,
	}
}

// lengths are those beside which the padding and the blocks change.
func lengths() []int {
	return []int{0, 1, 2, 31, 32, 54, 55, 56, 57, 62, 63, 64, 65, 118, 119, 120, 121, 127, 128, 129, 183, 184, 191, 192, 193, 1000}
}

func row(n int) []byte {
	b := make([]byte, n)
	for i := range b {
		b[i] = byte(i*7 + i/256 + 1)
	}
	return b
}

func published(b []byte) []byte {
	s := sha256.Sum256(b)
	return s[:]
}

func TestSize(t *testing.T) {
	if sha.Size != 32 {
		t.Errorf("Size: %d, want 32", sha.Size)
	}
	for _, n := range lengths() {
		if got := len(sha.Sum(row(n))); got != sha.Size {
			t.Errorf("Sum of %d bytes has %d bytes", n, got)
		}
	}
}

func TestSumsThatArePublished(t *testing.T) {
	for _, c := range []struct{ text, want string }{
		{"abc", "ba7816bf8f01cfea414140de5dae2223b00361a396177a9cb410ff61f20015ad"},
		{"", "e3b0c44298fc1c149afbf4c8996fb92427ae41e4649b934ca495991b7852b855"},
		{
			"abcdbcdecdefdefgefghfghighijhijkijkljklmklmnlmnomnopnopq",
			"248d6a61d20638b8e5c026930c3e6039a33ce45964ff2167f6ecedd419db06c1",
		},
		{
			"abcdefghbcdefghicdefghijdefghijkefghijklfghijklmghijklmnhijklmnoijklmnopjklmnopqklmnopqrlmnopqrsmnopqrstnopqrstu",
			"cf5b16a778af8380036ce59e7b0492370b249b11e8f07a51afac45037afee9d1",
		},
		{strings.Repeat("a", 1000000), "cdc76e5c9914fb9281a1c7e284d73e67f1809a48a497200e046d39ccc7112cd0"},
		{"\xbd", "68325720aabd7c82f30f554b313d0570c95accbb7dc4b5aae11204c08ffe732b"},
		{"\xc9\x8c\x8e\x55", "7abc22c0ae5af26ce93dbb94433a0e0b2e119d014f8e7f65bd56c61ccccd9504"},
	} {
		if got := hex.EncodeToString(sha.Sum([]byte(c.text))); got != c.want {
			t.Errorf("Sum of %.60q: %s, want %s", c.text, got, c.want)
		}
	}
}

func TestSumOfEveryLength(t *testing.T) {
	for n := range 260 {
		if got, want := sha.Sum(row(n)), published(row(n)); !bytes.Equal(got, want) {
			t.Errorf("Sum of %d bytes: %x, want %x", n, got, want)
		}
	}
}

func TestSumOfNothing(t *testing.T) {
	want := published(nil)
	for name, l := range map[string][][]byte{
		"no list":            nil,
		"no pieces":          {},
		"a nil piece":        {nil},
		"an empty piece":     {{}},
		"many empty pieces":  {{}, nil, {}, nil, {}},
		"an empty long list": make([][]byte, 100),
	} {
		if got := sha.Sum(l...); !bytes.Equal(got, want) {
			t.Errorf("%s: %x, want %x", name, got, want)
		}
	}
}

// TestSumOfPiecesCutOnce cuts rows at every place, and lays empty pieces between.
func TestSumOfPiecesCutOnce(t *testing.T) {
	for _, n := range []int{1, 2, 55, 56, 63, 64, 65, 127, 128, 129, 200} {
		b := row(n)
		want := published(b)
		for at := range n + 1 {
			if got := sha.Sum(b[:at], b[at:]); !bytes.Equal(got, want) {
				t.Errorf("%d bytes, cut at %d: %x, want %x", n, at, got, want)
			}
			if got := sha.Sum(nil, b[:at], []byte{}, nil, b[at:], nil); !bytes.Equal(got, want) {
				t.Errorf("%d bytes, cut at %d, with empty pieces: %x, want %x", n, at, got, want)
			}
		}
	}
}

func TestSumOfPiecesCutTwice(t *testing.T) {
	for _, n := range []int{65, 130} {
		b := row(n)
		want := published(b)
		for i := range n + 1 {
			for j := i; j <= n; j++ {
				if got := sha.Sum(b[:i], b[i:j], b[j:]); !bytes.Equal(got, want) {
					t.Fatalf("%d bytes, cut at %d and %d: %x, want %x", n, i, j, got, want)
				}
			}
		}
	}
}

func TestSumOfPiecesOfOneWidth(t *testing.T) {
	b := row(1000)
	want := published(b)
	for wide := 1; wide <= 200; wide++ {
		var l [][]byte
		for rest := b; len(rest) > 0; {
			n := min(wide, len(rest))
			l = append(l, rest[:n])
			rest = rest[n:]
		}
		if got := sha.Sum(l...); !bytes.Equal(got, want) {
			t.Errorf("pieces of %d bytes: %x, want %x", wide, got, want)
		}
	}
}

func TestSumOfPiecesCutAnywhere(t *testing.T) {
	r := rand.New(rand.NewSource(2))
	for range 500 {
		b := make([]byte, r.Intn(400))
		r.Read(b)
		want := published(b)
		var l [][]byte
		for rest := b; len(rest) > 0; {
			n := min(r.Intn(90), len(rest))
			l = append(l, rest[:n])
			rest = rest[n:]
		}
		if got := sha.Sum(l...); !bytes.Equal(got, want) {
			t.Fatalf("%x in %d pieces: %x, want %x", b, len(l), got, want)
		}
	}
}

func TestSumLeavesItsPieces(t *testing.T) {
	whole := row(300)
	kept := bytes.Clone(whole)
	// Each piece has the next bytes of the row behind its length.
	for _, n := range lengths() {
		n = min(n, 150)
		got := sha.Sum(whole[:n], whole[100:100+n])
		want := published(append(bytes.Clone(kept[:n]), kept[100:100+n]...))
		if !bytes.Equal(got, want) {
			t.Errorf("two pieces of %d bytes: %x, want %x", n, got, want)
		}
		if !bytes.Equal(whole, kept) {
			t.Fatalf("Sum of two pieces of %d bytes changed its memory", n)
		}
	}
	l := [][]byte{whole[:3], whole[3:70], nil}
	sha.Sum(l...)
	if !bytes.Equal(l[0], kept[:3]) || !bytes.Equal(l[1], kept[3:70]) || l[2] != nil || len(l[0]) != 3 || len(l[1]) != 67 {
		t.Error("Sum changed the list of its pieces")
	}
}

func TestSumIsNewMemory(t *testing.T) {
	a, b := sha.Sum([]byte("abc")), sha.Sum([]byte("abc"))
	for i := range a {
		a[i] = 0
	}
	want := published([]byte("abc"))
	if !bytes.Equal(b, want) || !bytes.Equal(sha.Sum([]byte("abc")), want) {
		t.Error("a change of one sum is seen in another")
	}
}

func TestPad(t *testing.T) {
	for _, c := range []struct {
		n       uint64
		noughts int
		bits    string
	}{
		{0, 55, "0000000000000000"},
		{1, 54, "0000000000000008"},
		{3, 52, "0000000000000018"},
		{54, 1, "00000000000001b0"},
		{55, 0, "00000000000001b8"},
		{56, 63, "00000000000001c0"},
		{57, 62, "00000000000001c8"},
		{63, 56, "00000000000001f8"},
		{64, 55, "0000000000000200"},
		{65, 54, "0000000000000208"},
		{119, 0, "00000000000003b8"},
		{120, 63, "00000000000003c0"},
		{1<<31 - 1, 56, "00000003fffffff8"},
		{1<<32 + 55, 0, "00000008000001b8"},
		{1<<61 - 1, 56, "fffffffffffffff8"},
		{1<<61 - 9, 0, "ffffffffffffffb8"},
		{1<<61 - 8, 63, "ffffffffffffffc0"},
		{1 << 61, 55, "0000000000000000"},
		{1<<61 + 1, 54, "0000000000000008"},
		{1<<61 + 56, 63, "00000000000001c0"},
		{1<<63 - 1, 56, "fffffffffffffff8"},
		{1 << 63, 55, "0000000000000000"},
		{math.MaxUint64 - 64, 56, "fffffffffffffdf8"},
		{math.MaxUint64 - 63, 55, "fffffffffffffe00"},
		{math.MaxUint64 - 9, 1, "ffffffffffffffb0"},
		{math.MaxUint64 - 8, 0, "ffffffffffffffb8"},
		{math.MaxUint64 - 7, 63, "ffffffffffffffc0"},
		{math.MaxUint64, 56, "fffffffffffffff8"},
	} {
		want := "80" + strings.Repeat("00", c.noughts) + c.bits
		if got := hex.EncodeToString(sha.Pad(c.n)); got != want {
			t.Errorf("Pad(%d): %s, want %s", c.n, got, want)
		}
	}
}

// TestPadEndsABlock reckons with numbers that have room for more than 64 bits.
func TestPadEndsABlock(t *testing.T) {
	starts := []uint64{0, 1<<31 - 64, 1<<32 - 64, 1<<61 - 64, 1<<61 + 1, 1<<63 - 64, math.MaxUint64 - 127}
	for _, start := range starts {
		for more := range uint64(128) {
			n := start + more
			pad := sha.Pad(n)
			whole := new(big.Int).Add(new(big.Int).SetUint64(n), big.NewInt(int64(len(pad))))
			if whole.Mod(whole, big.NewInt(64)).Sign() != 0 {
				t.Errorf("Pad(%d) has %d bytes: no block's end", n, len(pad))
			}
			if len(pad) < 9 || len(pad) > 72 {
				t.Errorf("Pad(%d) has %d bytes: not as few as may be", n, len(pad))
				continue
			}
			last := len(pad) - 8
			if pad[0] != 0x80 || bytes.Count(pad[1:last], []byte{0}) != last-1 {
				t.Errorf("Pad(%d) begins with % x", n, pad[:last])
			}
			if got := binary.BigEndian.Uint64(pad[last:]); got != n*8 {
				t.Errorf("Pad(%d) tells %d bits", n, got)
			}
		}
	}
}

func TestPadIsNewMemory(t *testing.T) {
	a, b := sha.Pad(3), sha.Pad(3)
	want := bytes.Clone(b)
	for i := range a {
		a[i] = 0xff
	}
	if !bytes.Equal(b, want) || !bytes.Equal(sha.Pad(3), want) {
		t.Error("a change of one pad is seen in another")
	}
}

func TestBlock(t *testing.T) {
	for _, c := range []struct {
		text string
		want [8]uint32
	}{
		{"abc", [8]uint32{0xba7816bf, 0x8f01cfea, 0x414140de, 0x5dae2223, 0xb00361a3, 0x96177a9c, 0xb410ff61, 0xf20015ad}},
		{"", [8]uint32{0xe3b0c442, 0x98fc1c14, 0x9afbf4c8, 0x996fb924, 0x27ae41e4, 0x649b934c, 0xa495991b, 0x7852b855}},
	} {
		b := append([]byte(c.text), sha.Pad(uint64(len(c.text)))...)
		if got := sha.Block(firstWords(), b); got != c.want {
			t.Errorf("Block of %q: %08x, want %08x", c.text, got, c.want)
		}
	}
}

// TestBlockBehindOthers starts from words that are not the first ones.
func TestBlockBehindOthers(t *testing.T) {
	b := row(1000)
	h := firstWords()
	whole := append(bytes.Clone(b), sha.Pad(1000)...)
	for ; len(whole) > 0; whole = whole[64:] {
		h = sha.Block(h, whole[:64])
	}
	var got []byte
	for _, w := range h {
		got = binary.BigEndian.AppendUint32(got, w)
	}
	if want := published(b); !bytes.Equal(got, want) {
		t.Errorf("Block by Block: %x, want %x", got, want)
	}
}

// TestBlockOfNoughts begins with words of noughts and of ones, where each sum of words goes round or stays.
func TestBlockOfNoughts(t *testing.T) {
	var noughts, ones [8]uint32
	for i := range ones {
		ones[i] = math.MaxUint32
	}
	for _, h := range [][8]uint32{noughts, ones} {
		for _, b := range [][]byte{make([]byte, 64), bytes.Repeat([]byte{0xff}, 64)} {
			if got, want := sha.Block(h, b), plainBlock(h, b); got != want {
				t.Errorf("Block of %08x, % x: %08x, want %08x", h, b[:4], got, want)
			}
		}
	}
}

func TestBlockOfAnything(t *testing.T) {
	r := rand.New(rand.NewSource(3))
	for range 200 {
		var h [8]uint32
		for i := range h {
			h[i] = r.Uint32()
		}
		b := make([]byte, 64)
		r.Read(b)
		if got, want := sha.Block(h, b), plainBlock(h, b); got != want {
			t.Fatalf("Block(%08x, %x): %08x, want %08x", h, b, got, want)
		}
	}
}

func TestBlockOfOtherLengths(t *testing.T) {
	h := [8]uint32{1, 2, 3, 4, 5, 6, 7, 8}
	for _, n := range []int{0, 1, 32, 55, 56, 63, 65, 127, 128, 192, 1000} {
		if got := sha.Block(h, row(n)); got != h {
			t.Errorf("Block of %d bytes: %x, want the words as they were", n, got)
		}
		// As long in memory as a block, or longer, but not in length.
		if n < 64 {
			if got := sha.Block(h, row(128)[:n]); got != h {
				t.Errorf("Block of %d bytes with others behind them: %x, want the words as they were", n, got)
			}
		}
	}
	if got := sha.Block(h, nil); got != h {
		t.Errorf("Block of nil: %x, want the words as they were", got)
	}
}

func TestBlockLeavesItsBytes(t *testing.T) {
	h := firstWords()
	whole := row(128)
	kept := bytes.Clone(whole)
	a := sha.Block(h, whole[:64])
	if !bytes.Equal(whole, kept) || h != firstWords() {
		t.Error("Block changed what it was given")
	}
	for i := range whole[64:] {
		whole[64+i] = 0xff
	}
	if b := sha.Block(h, whole[:64]); a != b {
		t.Error("Block read behind the length")
	}
}

// plainBlock goes by the words of the chapter, its K reckoned from the primes' cube roots.
func plainBlock(h [8]uint32, b []byte) [8]uint32 {
	rot := func(x uint32, n int) uint32 { return x>>n | x<<(32-n) }
	var w [64]uint32
	for t := range w {
		if t < 16 {
			w[t] = binary.BigEndian.Uint32(b[4*t:])
			continue
		}
		x, y := w[t-15], w[t-2]
		s0 := rot(x, 7) ^ rot(x, 18) ^ x>>3
		s1 := rot(y, 17) ^ rot(y, 19) ^ y>>10
		w[t] = s1 + w[t-7] + s0 + w[t-16]
	}
	v := h
	for t, k := range cubeRoots() {
		t1 := v[7] + (rot(v[4], 6) ^ rot(v[4], 11) ^ rot(v[4], 25)) + ((v[4] & v[5]) ^ (^v[4] & v[6])) + k + w[t]
		t2 := (rot(v[0], 2) ^ rot(v[0], 13) ^ rot(v[0], 22)) + ((v[0] & v[1]) ^ (v[0] & v[2]) ^ (v[1] & v[2]))
		copy(v[1:], v[:7])
		v[4] += t1
		v[0] = t1 + t2
	}
	for i := range v {
		v[i] += h[i]
	}
	return v
}

// cubeRoots are the first 32 bits behind the point of the cube roots of the first 64 primes: the cube root of p by 2^96, modulo 2^32.
func cubeRoots() [64]uint32 {
	var k [64]uint32
	p := int64(1)
	for t := range k {
		for p++; !big.NewInt(p).ProbablyPrime(0); p++ {
		}
		goal := new(big.Int).Lsh(big.NewInt(p), 96)
		low, high := big.NewInt(0), new(big.Int).Lsh(big.NewInt(1), 36)
		for new(big.Int).Sub(high, low).Cmp(big.NewInt(1)) > 0 {
			mid := new(big.Int).Rsh(new(big.Int).Add(low, high), 1)
			if new(big.Int).Exp(mid, big.NewInt(3), nil).Cmp(goal) <= 0 {
				low = mid
			} else {
				high = mid
			}
		}
		k[t] = uint32(low.Uint64())
	}
	return k
}
