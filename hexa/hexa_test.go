package hexa_test

import (
	"bytes"
	"encoding/hex"
	"math/rand"
	"strings"
	"testing"
	"unicode/utf8"

	"wicketman/hexa"
)

const (
	idBytes = 32
	idSigns = 64
	digits  = "0123456789abcdef"
)

// row is n bytes that differ from their neighbours, with all halves a byte may have.
func row(n int) []byte {
	b := make([]byte, n)
	for i := range b {
		b[i] = byte(i*23 + 7)
	}
	return b
}

// every is each byte there is, once.
func every() []byte {
	b := make([]byte, 256)
	for i := range b {
		b[i] = byte(i)
	}
	return b
}

func anything(draw *rand.Rand, most int) []byte {
	b := make([]byte, draw.Intn(most+1))
	draw.Read(b)
	return b
}

func isDigit(c byte) bool { return strings.IndexByte(digits, c) >= 0 }

// strange are signs that are no digits, and bytes that are no rune's.
func strange() []string {
	return []string{
		"A", "F", "B", "g", "G", "x", "X", "z", "/", ":", "@", "`", " ", "\t", "\n", "\r", "\x00", "\x7f",
		"-", "+", "_", ".", ",", "%", "O", "l",
		"\u00b2", "\u00e9", "\u0130", "\u0139", "\u0161", "\u0166", "\u0660", "\u0663", // of two bytes, some with a digit's lowest byte
		"\u0430", "\u0966", "\u2070", "\u3030", "\u6161", "\uff10", "\uff41", "\uff21", "\ufeff", "\ufffd", // of three
		"\U0001d7ce", "\U0001f600", "\U00010030", "\U0010ffff", // of four
		"\x80", "\xb0", "\xe1", "\xff", "\xfe", "\xc3", "\xb1\xb2", "\xff\xfe", "\xc0\xb0", "\xc1\xa1",
		"\xe0\x80\xb0", "\xed\xa0\x80", "\xf0\x80\x80\xb0", "\xf4\x90\x80\x80", "\xe2\x82", "\xf0\x9f\x98",
	}
}

func refuses(t *testing.T, s string) {
	t.Helper()
	if b, ok := hexa.Bytes(s); len(b) != 0 || ok {
		t.Errorf("Bytes of %q: %x, %v, want nothing, false", s, b, ok)
	}
}

func TestTheChapter(t *testing.T) {
	if got := hexa.Text([]byte{0x0f, 0xa0}); got != "0fa0" {
		t.Errorf("Text of 0f a0: %q", got)
	}
	if b, ok := hexa.Bytes("0fa0"); !bytes.Equal(b, []byte{0x0f, 0xa0}) || !ok {
		t.Errorf("Bytes of 0fa0: %x, %v", b, ok)
	}
}

func TestText(t *testing.T) {
	for _, c := range []struct {
		b    []byte
		want string
	}{
		{nil, ""},
		{[]byte{}, ""},
		{[]byte{0}, "00"},
		{[]byte{1}, "01"},
		{[]byte{0x10}, "10"},
		{[]byte{9, 10, 15, 16}, "090a0f10"},
		{[]byte{0x99, 0x9a, 0xa9, 0xff}, "999aa9ff"},
		{[]byte{0, 0, 0}, "000000"},
		{[]byte{0xde, 0xad, 0xbe, 0xef}, "deadbeef"},
		{[]byte("abc"), "616263"},
	} {
		if got := hexa.Text(c.b); got != c.want {
			t.Errorf("Text of %v: %q, want %q", c.b, got, c.want)
		}
	}
}

// Each byte alone has its two digits, the greater half first, and these have it.
func TestEachByte(t *testing.T) {
	for _, c := range every() {
		want := digits[c/16:c/16+1] + digits[c%16:c%16+1]
		if got := hexa.Text([]byte{c}); got != want {
			t.Errorf("Text of the byte %d: %q, want %q", c, got, want)
		}
		if b, ok := hexa.Bytes(want); len(b) != 1 || b[0] != c || !ok {
			t.Errorf("Bytes of %q: %v, %v, want %d, true", want, b, ok, c)
		}
	}
	if got := hexa.Text(every()); got != hex.EncodeToString(every()) {
		t.Errorf("Text of all bytes: %q", got)
	}
}

func TestBytes(t *testing.T) {
	for _, c := range []struct {
		s    string
		want []byte
	}{
		{"", nil},
		{"00", []byte{0}},
		{"01", []byte{1}},
		{"10", []byte{0x10}},
		{"090a0f10", []byte{9, 10, 15, 16}},
		{"ff", []byte{0xff}},
		{"000000", []byte{0, 0, 0}},
		{"0123456789abcdef", []byte{0x01, 0x23, 0x45, 0x67, 0x89, 0xab, 0xcd, 0xef}},
		{"fedcba9876543210", []byte{0xfe, 0xdc, 0xba, 0x98, 0x76, 0x54, 0x32, 0x10}},
	} {
		if got, ok := hexa.Bytes(c.s); !bytes.Equal(got, c.want) || !ok {
			t.Errorf("Bytes of %q: %x, %v, want %x, true", c.s, got, ok, c.want)
		}
	}
}

func TestBytesOfAnOddNumberOfDigits(t *testing.T) {
	for _, n := range []int{1, 3, 5, 7, 31, 63, 65, 127, 1001} {
		refuses(t, strings.Repeat("0", n))
		refuses(t, strings.Repeat("f", n))
		refuses(t, hexa.Text(row(n))[:n])
	}
}

func TestBytesOfGreatLetters(t *testing.T) {
	for _, s := range []string{
		"0A", "A0", "AA", "0FA0", "0Fa0", "0fA0", "AB", "aB", "Ab", "CD", "EF", "FF", "fF", "Ff",
		"DEADBEEF", "deadbeeF", "Deadbeef", "0123456789ABCDEF", "00A000",
	} {
		refuses(t, s)
		if _, ok := hexa.Bytes(strings.ToLower(s)); !ok {
			t.Errorf("Bytes of %q: false", strings.ToLower(s))
		}
	}
}

func TestBytesOfWordsThatAreNone(t *testing.T) {
	for _, s := range []string{
		"  ", " 0", "0 ", "00 ", " 00", "0 0", "00 00", "0x", "0x00", "00\n", "00\r\n", "\n\n", "-1", "+1", "--", "00:00",
		"0g", "g0", "gg", "`a", "a`", "/0", "0/", ":9", "9:", "hello!", "%20", "\x00\x00", "0\x00", "\u00e9", "\ufffd0",
	} {
		refuses(t, s)
	}
}

// Wherever among digits such a sign stands, and whether bytes or signs are then of an even number, there are no bytes.
func TestStrangeSignsAnywhere(t *testing.T) {
	for _, sign := range strange() {
		for ahead := range 9 {
			for behind := range 9 {
				refuses(t, digits[:ahead]+sign+digits[:behind])
			}
		}
		refuses(t, sign+sign)
		refuses(t, strings.Repeat(sign, idSigns))
	}
}

// Every rune there is, with an even number of bytes or of runes: just sixteen of them are digits.
func TestEveryRune(t *testing.T) {
	for r := rune(0); r <= utf8.MaxRune; r++ {
		s := string(r)
		digit := r < utf8.RuneSelf && isDigit(byte(r))
		for _, text := range []string{s + "0", "0" + s, s + "00", s + s} {
			_, ok := hexa.Bytes(text)
			if want := digit && len(text)%2 == 0; ok != want {
				t.Fatalf("Bytes of %q: %v, want %v", text, ok, want)
			}
		}
	}
}

// Each text of two bytes, of any at all, has bytes just if both are digits; and it is then their Text.
func TestEachTextOfTwoBytes(t *testing.T) {
	for _, x := range every() {
		refuses(t, string([]byte{x}))
		for _, y := range every() {
			s := string([]byte{x, y})
			b, ok := hexa.Bytes(s)
			if want := isDigit(x) && isDigit(y); ok != want {
				t.Fatalf("Bytes of %q: %v, want %v", s, ok, want)
			}
			if ok && (len(b) != 1 || hexa.Text(b) != s) || !ok && len(b) != 0 {
				t.Fatalf("Bytes of %q: %x, %v", s, b, ok)
			}
		}
	}
}

func TestThereAndBack(t *testing.T) {
	draw := rand.New(rand.NewSource(5))
	lists := [][]byte{nil, {}, every()}
	for n := range 100 {
		lists = append(lists, row(n), make([]byte, n), bytes.Repeat([]byte{0xff}, n))
	}
	for range 500 {
		lists = append(lists, anything(draw, 300))
	}
	lists = append(lists, row(1<<20))
	for _, b := range lists {
		s := hexa.Text(b)
		if s != hex.EncodeToString(b) {
			t.Errorf("Text of %d bytes that begin with %x: another library tells another one", len(b), b[:min(len(b), 8)])
		}
		if back, ok := hexa.Bytes(s); !bytes.Equal(back, b) || !ok {
			t.Errorf("%d bytes that begin with %x are not there again", len(b), b[:min(len(b), 8)])
		}
	}
}

// A text that has bytes is their Text: no bytes have two.
func TestEachTextThatHasBytesIsTheirs(t *testing.T) {
	signs := append(strange(), strings.Split(strings.Repeat(digits, 40), "")...)
	draw := rand.New(rand.NewSource(14))
	had := 0
	for range 50000 {
		var s strings.Builder
		for range draw.Intn(12) {
			s.WriteString(signs[draw.Intn(len(signs))])
		}
		text := s.String()
		want := len(text)%2 == 0 && strings.Trim(text, digits) == ""
		b, ok := hexa.Bytes(text)
		if ok != want || !ok && len(b) != 0 || ok && hexa.Text(b) != text {
			t.Fatalf("Bytes of %q: %x, %v", text, b, ok)
		}
		if ok {
			had++
		}
	}
	if had == 0 || had == 50000 {
		t.Errorf("%d of the texts have bytes: these texts test nothing", had)
	}
}

func TestNumbersOfBytesThatAreAnID(t *testing.T) {
	for n := range 200 {
		text, ok := hexa.Of(row(n))
		if n == idBytes {
			if text != hex.EncodeToString(row(n)) || !ok {
				t.Errorf("Of %d bytes: %q, %v", n, text, ok)
			}
		} else if text != "" || ok {
			t.Errorf("Of %d bytes: %q, %v, want nothing, false", n, text, ok)
		}
		if hexa.ID(hexa.Text(row(n))) != (n == idBytes) {
			t.Errorf("ID of the Text of %d bytes: %v", n, n != idBytes)
		}
	}
	if text, ok := hexa.Of(nil); text != "" || ok {
		t.Errorf("Of no bytes: %q, %v", text, ok)
	}
}

func TestNumbersOfSignsThatAreAnID(t *testing.T) {
	signs := strings.Repeat(digits, 5)
	for _, n := range []int{0, 1, 2, 31, 32, 33, 62, 63, 64, 65, 66, 80} {
		for _, s := range []string{signs[:n], strings.Repeat("0", n), strings.Repeat("f", n)} {
			if hexa.ID(s) != (n == idSigns) {
				t.Errorf("ID of %q, of %d signs: %v", s, n, n != idSigns)
			}
		}
	}
}

// An ID with any other sign in place of one of its digits is none, be it of 64 bytes or of 64 signs.
func TestIDsThatAreSpoilt(t *testing.T) {
	id, _ := hexa.Of(row(idBytes))
	for at := range idSigns {
		for _, c := range every() {
			s := id[:at] + string([]byte{c}) + id[at+1:]
			if hexa.ID(s) != isDigit(c) {
				t.Errorf("ID of %q: %v", s, hexa.ID(s))
			}
		}
		for _, sign := range strange() {
			sameSigns := id[:at] + sign + id[at+1:]
			sameBytes := id[:at] + sign + id[min(at+len(sign), idSigns):]
			if hexa.ID(sameSigns) || hexa.ID(sameBytes) {
				t.Errorf("%q, or %q, is an ID", sameSigns, sameBytes)
			}
		}
		if hexa.ID(id[:at]+id[at+1:]) || hexa.ID(id[:at]+"0"+id[at:]) {
			t.Errorf("an ID with a digit less, or one more, at %d is an ID", at)
		}
	}
	for _, s := range []string{strings.ToUpper(id), " " + id, id + " ", id + "\n", "0x" + id, `"` + id + `"`, id + id, id[:idSigns-2]} {
		if hexa.ID(s) {
			t.Errorf("%q is an ID", s)
		}
	}
}

// No two draws have one ID: what differs in one bit has another.
func TestEachDrawHasItsOwnID(t *testing.T) {
	seen := map[string]int{}
	for bit := -1; bit < 8*idBytes; bit++ {
		draw := row(idBytes)
		if bit >= 0 {
			draw[bit/8] ^= 1 << (bit % 8)
		}
		id, ok := hexa.Of(draw)
		if !ok || !hexa.ID(id) || len(id) != idSigns {
			t.Errorf("Of %x: %q, %v", draw, id, ok)
		}
		if b, _ := hexa.Bytes(id); !bytes.Equal(b, draw) {
			t.Errorf("Bytes of the ID of %x: %x", draw, b)
		}
		seen[id]++
	}
	if len(seen) != 8*idBytes+1 {
		t.Errorf("%d IDs of %d draws", len(seen), 8*idBytes+1)
	}
}
