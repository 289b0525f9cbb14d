package hexa_test

import (
	"bytes"
	"encoding/hex"
	"strings"
	"testing"

	"wicketman/hexa"
)

// within is a list whose memory has other bytes ahead of it and behind its length.
func within(b []byte) (list, whole []byte) {
	whole = append([]byte{0xe1, 0xe2, 0xe3}, b...)
	whole = append(whole, bytes.Repeat([]byte{0xee}, 100)...)
	return whole[3 : 3+len(b)], whole
}

func spoil(b []byte) {
	b = b[:cap(b)]
	for i := range b {
		b[i] ^= 0xff
	}
}

// Nothing handed in is changed, and nothing behind a length is read or written.
func TestWhatIsHandedInStays(t *testing.T) {
	for _, n := range []int{0, 1, 2, 16, 31, 32, 33, 64, 200} {
		list, whole := within(row(n))
		was := bytes.Clone(whole)
		want := hex.EncodeToString(row(n))
		if got := hexa.Text(list); got != want {
			t.Errorf("Text of %d bytes with others behind their length: %q", n, got)
		}
		if got, ok := hexa.Of(list); ok != (n == idBytes) || ok && got != want || !ok && got != "" {
			t.Errorf("Of %d bytes with others behind their length: %q, %v", n, got, ok)
		}
		if !bytes.Equal(whole, was) {
			t.Errorf("what was handed in was changed: %x", whole)
		}
	}
}

// A text that is a piece of another one ends where it ends.
func TestAPieceOfAText(t *testing.T) {
	whole := strings.Repeat(digits, 10)
	kept := strings.Clone(whole)
	for n := 0; n <= 100; n += 2 {
		want, err := hex.DecodeString(whole[3 : 3+n])
		if err != nil {
			t.Fatal(err)
		}
		if got, ok := hexa.Bytes(whole[3 : 3+n]); !bytes.Equal(got, want) || !ok {
			t.Errorf("Bytes of a piece of %d signs: %x, %v", n, got, ok)
		}
		if hexa.ID(whole[3:3+n]) != (n == idSigns) {
			t.Errorf("ID of a piece of %d signs: %v", n, n != idSigns)
		}
	}
	if whole != kept {
		t.Errorf("what was handed in was changed: %q", whole)
	}
}

// What is spoilt behind a call changes nothing that came out: none of it is kept.
func TestWhatIsHandedInIsNotKept(t *testing.T) {
	for _, n := range []int{1, 31, 32, 33, 200} {
		b := row(n)
		text := hexa.Text(b)
		id, ok := hexa.Of(b)
		spoil(b)
		if want := hex.EncodeToString(row(n)); text != want || ok && id != want {
			t.Errorf("a text of %d bytes shares its memory with them: %q, %q", n, text, id)
		}
		if got := hexa.Text(b); got != hex.EncodeToString(b) {
			t.Errorf("Text of the same memory with other bytes: %q", got)
		}
		if got, ok := hexa.Of(b); ok && got != hex.EncodeToString(b) {
			t.Errorf("Of the same memory with other bytes: %q", got)
		}
	}
}

// What comes out is the asker's own: spoilt, it changes nothing else that came out, or comes out later.
func TestWhatComesOutIsNew(t *testing.T) {
	for _, n := range []int{0, 1, 31, 32, 33, 200} {
		s := hex.EncodeToString(row(n))
		kept := strings.Clone(s)
		one, _ := hexa.Bytes(s)
		two, _ := hexa.Bytes(s)
		spoil(one)
		// Looked at ahead of asking again, for memory that is handed out twice would be put right by that.
		if !bytes.Equal(two, row(n)) {
			t.Errorf("two rows of %d bytes share their memory: %x", n, two)
		}
		if later, ok := hexa.Bytes(s); !bytes.Equal(later, row(n)) || !ok {
			t.Errorf("a row of %d bytes that was spoilt comes out again: %x, %v", n, later, ok)
		}
		if s != kept || hexa.ID(s) != (n == idBytes) || hexa.Text(row(n)) != kept {
			t.Errorf("a row of %d bytes that was spoilt changed another answer", n)
		}
	}
}

// What came out stays as it was, whatever is asked behind it.
func TestWhatCameOutStays(t *testing.T) {
	for _, n := range []int{1, 31, 32, 33, 200} {
		b, _ := hexa.Bytes(hex.EncodeToString(row(n)))
		text := hexa.Text(b)
		id, isID := hexa.Of(b)
		other := bytes.Repeat([]byte{0xff}, n)
		hexa.Bytes(hexa.Text(other))
		hexa.ID(hexa.Text(other))
		hexa.Of(other)
		hexa.Bytes(strings.Repeat("f", 2*n-1) + "g")
		if !bytes.Equal(b, row(n)) || text != hex.EncodeToString(row(n)) || isID && id != text {
			t.Errorf("calls behind it changed what came out of %d bytes: %x, %q, %q", n, b, text, id)
		}
	}
}
