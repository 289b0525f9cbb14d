package kdf_test

import (
	"bytes"
	"testing"

	"wicketman/kdf"
)

// within is a list whose memory has other bytes ahead of it and behind its length.
func within(b []byte) (list, whole []byte) {
	whole = append([]byte{0xe1, 0xe2, 0xe3}, b...)
	whole = append(whole, bytes.Repeat([]byte{0xee}, 100)...)
	return whole[3 : 3+len(b)], whole
}

func spoil(b []byte) {
	b = b[:cap(b)]
	for i := range b {
		b[i] ^= 0xff
	}
}

// Nothing handed in is changed, and nothing behind a length is read or written.
func TestWhatIsHandedInStays(t *testing.T) {
	for _, n := range []int{0, 1, 16, 32, 63, 64, 65, 200} {
		for _, rounds := range []int{0, 1, 2, 9, 1001} {
			pass, wholePass := within(row(n))
			salt, wholeSalt := within(row(n + 1))
			want := published(t, row(n), row(n+1), max(rounds, 1))
			hash, wholeHash := within(want)
			passWas, saltWas, hashWas := bytes.Clone(wholePass), bytes.Clone(wholeSalt), bytes.Clone(wholeHash)
			made := rounds > 0 && rounds < 1001
			if got := kdf.Hash(pass, salt, rounds); made && !bytes.Equal(got, want) {
				t.Errorf("Hash of a password of %d bytes read behind a length", n)
			}
			if kdf.Right(pass, salt, rounds, hash) != made {
				t.Errorf("Right of a password of %d bytes read behind a length", n)
			}
			kdf.Right(pass, salt, rounds, pass)
			if got := kdf.Round(pass, salt); !bytes.Equal(got, code(row(n), row(n+1))) {
				t.Errorf("Round of a password of %d bytes read behind a length", n)
			}
			if !bytes.Equal(wholePass, passWas) || !bytes.Equal(wholeSalt, saltWas) || !bytes.Equal(wholeHash, hashWas) {
				t.Errorf("what was handed in was changed: %x %x %x", wholePass, wholeSalt, wholeHash)
			}
		}
	}
}

// A password and a salt that lie in one memory, the salt ahead of the password or being it, are no worse for that.
func TestOneMemoryForAll(t *testing.T) {
	whole := []byte("saltpassword")
	salt, pass := whole[:4], whole[4:]
	want := published(t, []byte("password"), []byte("salt"), 3)
	if got := kdf.Hash(pass, salt, 3); !bytes.Equal(got, want) || string(whole) != "saltpassword" {
		t.Errorf("%x of %q, want %x", got, whole, want)
	}
	same := row(32)
	if got := kdf.Hash(same, same, 3); !bytes.Equal(got, published(t, row(32), row(32), 3)) || !bytes.Equal(same, row(32)) {
		t.Errorf("a password that is its own salt: %x", got)
	}
	if got := kdf.Round(same, same); !bytes.Equal(got, code(row(32), row(32))) || !bytes.Equal(same, row(32)) {
		t.Errorf("a password that is its own U: %x", got)
	}
	if kdf.Right(same, same, 3, same) || !bytes.Equal(same, row(32)) {
		t.Error("a password that is its own hash")
	}
}

// What is spoilt behind a call changes nothing later: none of it is kept.
func TestWhatIsHandedInIsNotKept(t *testing.T) {
	pass, salt := []byte("password"), []byte("salt")
	hash, u := kdf.Hash(pass, salt, 2), kdf.Round(pass, salt)
	spoil(pass)
	spoil(salt)
	if !bytes.Equal(hash, published(t, []byte("password"), []byte("salt"), 2)) || !bytes.Equal(u, code([]byte("password"), []byte("salt"))) {
		t.Error("what came out shares its memory with what was handed in")
	}
	if got := kdf.Hash(pass, salt, 2); !bytes.Equal(got, published(t, pass, salt, 2)) {
		t.Errorf("Hash of the same memory with other bytes: %x", got)
	}
	if kdf.Right(pass, salt, 2, hash) {
		t.Error("Right of the same memory with other bytes")
	}
}

// What comes out is the asker's own: spoilt, it changes nothing else that came out, or comes out later.
func TestWhatComesOutIsNew(t *testing.T) {
	pass := []byte("password")
	for _, rounds := range []int{1, 2, 1000} {
		salt := row(32)
		want := published(t, pass, row(32), rounds)
		one, two := kdf.Hash(pass, salt, rounds), kdf.Hash(pass, salt, rounds)
		spoil(one)
		if !bytes.Equal(two, want) || !bytes.Equal(kdf.Hash(pass, salt, rounds), want) {
			t.Errorf("hashes of %d rounds share their memory", rounds)
		}
		if !kdf.Right(pass, salt, rounds, want) || kdf.Right(pass, salt, rounds, one) {
			t.Errorf("a hash of %d rounds that was spoilt changed Right", rounds)
		}
		if string(pass) != "password" || !bytes.Equal(salt, row(32)) {
			t.Errorf("a hash of %d rounds shares its memory with what was handed in", rounds)
		}
	}
	u := row(32)
	one, two := kdf.Round(pass, u), kdf.Round(pass, u)
	spoil(one)
	if !bytes.Equal(two, code(pass, row(32))) || !bytes.Equal(u, row(32)) || string(pass) != "password" {
		t.Error("a U of Round shares its memory")
	}
}
