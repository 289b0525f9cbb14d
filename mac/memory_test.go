package mac_test

import (
	"bytes"
	"testing"

	"wicketman/mac"
)

func makers() map[string]mac.Maker {
	return map[string]mac.Maker{"real": mac.Real([]byte("Jefe")), "ideal": mac.Ideal()}
}

// within is a list whose memory has other bytes ahead of it and behind its length.
func within(b []byte) (list, whole []byte) {
	whole = append([]byte{0xe1, 0xe2, 0xe3}, b...)
	whole = append(whole, bytes.Repeat([]byte{0xee}, 100)...)
	return whole[3 : 3+len(b)], whole
}

func spoil(b []byte) {
	b = b[:cap(b)]
	for i := range b {
		b[i] ^= 0xff
	}
}

// Nothing handed in is changed, and nothing behind a length is read or written.
func TestWhatIsHandedInStays(t *testing.T) {
	for _, n := range []int{0, 4, 63, 64, 65, 200} {
		key, wholeKey := within(row(n))
		msg, wholeMsg := within(row(n + 1))
		code, wholeCode := within(published(row(n), row(n+1)))
		keyWas, msgWas, codeWas := bytes.Clone(wholeKey), bytes.Clone(wholeMsg), bytes.Clone(wholeCode)
		if !bytes.Equal(mac.Code(key, msg), code) {
			t.Errorf("Code by a key of %d bytes read behind a length", n)
		}
		if m := mac.Real(key); !bytes.Equal(m.Make(msg), code) || !m.Prove(msg, code) {
			t.Errorf("Real of a key of %d bytes read behind a length", n)
		}
		m := mac.Ideal()
		if !bytes.Equal(m.Make(msg), idealCode(0, row(n+1))) || m.Prove(msg, code) || !m.Prove(msg, m.Make(row(n+1))) {
			t.Errorf("Ideal read behind the length of a message of %d bytes", n+1)
		}
		mac.Equal(code, msg)
		mac.Steps(code, msg)
		if !mac.Equal(code, published(row(n), row(n+1))) {
			t.Error("Equal read behind a length")
		}
		if !bytes.Equal(wholeKey, keyWas) || !bytes.Equal(wholeMsg, msgWas) || !bytes.Equal(wholeCode, codeWas) {
			t.Errorf("what was handed in was changed: %x %x %x", wholeKey, wholeMsg, wholeCode)
		}
	}
}

// A key, a message and a code that are spoilt behind a call change nothing: none of them is kept.
func TestWhatIsHandedInIsNotKept(t *testing.T) {
	for _, n := range []int{1, 63, 64, 65, 200} {
		key := row(n)
		m := mac.Real(key)
		spoil(key)
		if got := m.Make([]byte("a")); !bytes.Equal(got, published(row(n), []byte("a"))) {
			t.Errorf("the key of %d bytes was kept", n)
		}
	}
	m := mac.Ideal()
	msg := []byte("abc")
	m.Make(msg)
	copy(msg, "xyz")
	if m.Prove([]byte("xyz"), idealCode(0, []byte("xyz"))) || !m.Prove([]byte("abc"), idealCode(0, []byte("abc"))) {
		t.Error("the message was kept")
	}
	if got := m.Make(msg); !bytes.Equal(got, idealCode(1, []byte("xyz"))) {
		t.Errorf("the message's memory was asked, not its bytes: %x", got)
	}
}

// What comes out is the asker's own: spoilt, it changes nothing that is made or proved later.
func TestWhatComesOutIsNew(t *testing.T) {
	for name, m := range makers() {
		msg := []byte("a")
		first := m.Make(msg)
		want := bytes.Clone(first)
		spoilt := bytes.Clone(first)
		spoil(first)
		spoil(spoilt)
		if got := m.Make(msg); !bytes.Equal(got, want) || !m.Prove(msg, want) || m.Prove(msg, spoilt) {
			t.Errorf("%s: a code that was spoilt changed the Maker", name)
		}
		second, third := m.Make(msg), m.Make(msg)
		spoil(second)
		if !bytes.Equal(third, want) {
			t.Errorf("%s: two codes share their memory", name)
		}
		if !bytes.Equal(msg, []byte("a")) {
			t.Errorf("%s: a code shares its memory with the message", name)
		}
	}
	key, msg := []byte("Jefe"), row(codeBytes)
	one, two := mac.Code(key, msg), mac.Code(key, msg)
	spoil(one)
	if !bytes.Equal(two, published(key, row(codeBytes))) || !bytes.Equal(msg, row(codeBytes)) || string(key) != "Jefe" {
		t.Error("a code of Code shares its memory")
	}
}

// A code that was handed in is no part of what is kept: only Make makes.
func TestProveKeepsNoCode(t *testing.T) {
	for name, m := range makers() {
		msg, code := []byte("a"), row(codeBytes)
		m.Prove(msg, code)
		m.Make(msg)
		m.Prove(msg, code)
		if m.Prove(msg, code) {
			t.Errorf("%s: a code was proved for having been asked before", name)
		}
	}
}
