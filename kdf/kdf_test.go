package kdf_test

import (
	"bytes"
	"crypto/hmac"
	"crypto/pbkdf2"
	"crypto/sha256"
	"encoding/hex"
	"go/ast"
	"go/parser"
	"go/token"
	"math"
	"math/rand"
	"slices"
	"strings"
	"testing"

	"wicketman/kdf"
)

const (
	hashBytes  = 32
	mostRounds = 1000
)

// row is n bytes that differ from their neighbours, none of the first 250 of which is a nought.
func row(n int) []byte {
	b := make([]byte, n)
	for i := range b {
		b[i] = byte(i%250 + 1)
	}
	return b
}

// published is the hash by Go's own library.
func published(t *testing.T, pass, salt []byte, rounds int) []byte {
	t.Helper()
	b, err := pbkdf2.Key(sha256.New, string(pass), salt, rounds, hashBytes)
	if err != nil {
		t.Fatal(err)
	}
	return b
}

// code is the HMAC-SHA256 by Go's own library.
func code(key, msg []byte) []byte {
	h := hmac.New(sha256.New, key)
	h.Write(msg)
	return h.Sum(nil)
}

func xored(a, b []byte) []byte {
	c := bytes.Clone(a)
	for i := range c {
		c[i] ^= b[i]
	}
	return c
}

func firstBlock(salt []byte) []byte { return slices.Concat(salt, []byte{0, 0, 0, 1}) }

func passLengths() []int { return []int{0, 1, 8, 31, 32, 33, 60, 63, 64, 65, 66, 128, 1000} }

func saltLengths() []int { return []int{0, 1, 4, 15, 16, 17, 51, 52, 60, 64, 65, 1000} }

func badRounds() []int {
	return []int{0, -1, -2, -1000, math.MinInt, math.MinInt32, 1001, 1002, 2000, 65537, math.MaxInt32, 1 << 32, 1<<32 + 1, math.MaxInt}
}

func TestHashOfTheChapter(t *testing.T) {
	want := "120fb6cffcf8b32c43e7225256c4f837a86548c92ccc35480805987cb70be17b"
	if got := hex.EncodeToString(kdf.Hash([]byte("password"), []byte("salt"), 1)); got != want {
		t.Errorf("%s, want %s", got, want)
	}
}

// The first four are published; the others are another library's.
func TestHashesThatArePublished(t *testing.T) {
	for _, c := range []struct {
		pass, salt string
		rounds     int
		want       string
	}{
		{"password", "salt", 1, "120fb6cffcf8b32c43e7225256c4f837a86548c92ccc35480805987cb70be17b"},
		{"password", "salt", 2, "ae4d0c95af6b46d32d0adff928f06dd02a303f8ef3c251dfd6e2d85a95474c43"},
		{"password", "salt", 1000, "632c2812e46d4604102ba7618e9d6d7d2f8128f6266b4a03264d2a0460b7dcb3"},
		{"passwd", "salt", 1, "55ac046e56e3089fec1691c22544b605f94185216dde0465e68b9d57c20dacbc"},
		{"", "salt", 1, "f135c27993baf98773c5cdb40a5706ce6a345cde61b000a67858650cd6a324d7"},
		{"password", "", 1, "c1232f10f62715fda06ae7c0a2037ca19b33cf103b727ba56d870c11f290a2ab"},
		{"", "", 1, "f7ce0b653d2d72a4108cf5abe912ffdd777616dbbb27a70e8204f3ae2d0f6fad"},
		{"pass\x00word", "sa\x00lt", 1000, "6174127bbe6f3133d70fa804e94af6ac3fe49d5fb103338927f4bae9aad51ef9"},
	} {
		got := kdf.Hash([]byte(c.pass), []byte(c.salt), c.rounds)
		if hex.EncodeToString(got) != c.want {
			t.Errorf("Hash of %q, %q, %d: %x, want %s", c.pass, c.salt, c.rounds, got, c.want)
		}
		if !kdf.Right([]byte(c.pass), []byte(c.salt), c.rounds, got) {
			t.Errorf("Right of %q, %q, %d: false", c.pass, c.salt, c.rounds)
		}
	}
}

func TestHashOfEveryLength(t *testing.T) {
	for _, p := range passLengths() {
		for _, s := range saltLengths() {
			for _, rounds := range []int{1, 2, 3, 17} {
				want := published(t, row(p), row(s), rounds)
				if got := kdf.Hash(row(p), row(s), rounds); !bytes.Equal(got, want) {
					t.Errorf("a password of %d, a salt of %d, %d rounds: %x, want %x", p, s, rounds, got, want)
				}
			}
		}
	}
}

func TestHashOfAnything(t *testing.T) {
	draw := rand.New(rand.NewSource(4))
	for range 300 {
		pass, salt, rounds := make([]byte, draw.Intn(140)), make([]byte, draw.Intn(80)), 1+draw.Intn(60)
		draw.Read(pass)
		draw.Read(salt)
		want := published(t, pass, salt, rounds)
		if got := kdf.Hash(pass, salt, rounds); !bytes.Equal(got, want) {
			t.Fatalf("Hash of %x, %x, %d: %x, want %x", pass, salt, rounds, got, want)
		}
		if !kdf.Right(pass, salt, rounds, want) {
			t.Fatalf("Right of %x, %x, %d: false", pass, salt, rounds)
		}
	}
}

func TestHashOfTooFewAndTooManyRounds(t *testing.T) {
	for _, rounds := range badRounds() {
		for _, pass := range [][]byte{nil, []byte("password"), row(65)} {
			if got := kdf.Hash(pass, []byte("salt"), rounds); len(got) != 0 {
				t.Errorf("Hash of %q in %d rounds: %x", pass, rounds, got)
			}
		}
	}
	for _, rounds := range []int{1, 2, 999, mostRounds} {
		want := published(t, row(8), row(16), rounds)
		if got := kdf.Hash(row(8), row(16), rounds); !bytes.Equal(got, want) {
			t.Errorf("Hash in %d rounds: %x, want %x", rounds, got, want)
		}
	}
}

// A password that is longer than a block is its sum; one of just a block is itself.
func TestPasswordsOfABlock(t *testing.T) {
	salt := []byte("salt")
	for _, n := range []int{64, 65} {
		s := sha256.Sum256(row(n))
		same := bytes.Equal(kdf.Hash(row(n), salt, 3), kdf.Hash(s[:], salt, 3))
		if same != (n > 64) {
			t.Errorf("a password of %d bytes has the hash of its sum: %v", n, same)
		}
		if !kdf.Right(row(n), salt, 3, published(t, row(n), salt, 3)) {
			t.Errorf("a password of %d bytes isn't right", n)
		}
	}
	if bytes.Equal(kdf.Hash(row(64), salt, 3), kdf.Hash(row(65), salt, 3)) {
		t.Error("a password of 65 bytes has the hash of its first 64")
	}
}

func TestRoundIsACode(t *testing.T) {
	for _, p := range passLengths() {
		for _, n := range saltLengths() {
			want := code(row(p), row(n))
			if got := kdf.Round(row(p), row(n)); !bytes.Equal(got, want) {
				t.Errorf("a password of %d, a U of %d: %x, want %x", p, n, got, want)
			}
		}
	}
	if got := kdf.Round([]byte("Jefe"), []byte("what do ya want for nothing?")); hex.EncodeToString(got) != "5bdcc146bf60754e6a042426089575c75a003f089d2739839dec58b964ec3843" {
		t.Errorf("the published code: %x", got)
	}
}

func TestTheFirstRound(t *testing.T) {
	for _, p := range passLengths() {
		for _, s := range saltLengths() {
			if !bytes.Equal(kdf.Hash(row(p), row(s), 1), kdf.Round(row(p), firstBlock(row(s)))) {
				t.Errorf("a password of %d, a salt of %d: one round isn't Round of the salt and 0, 0, 0, 1", p, s)
			}
		}
	}
}

func TestOneRoundMoreIsOneRoundMore(t *testing.T) {
	for _, c := range []struct{ pass, salt []byte }{
		{[]byte("password"), []byte("salt")},
		{nil, nil},
		{row(64), row(16)},
		{row(65), row(16)},
	} {
		u := kdf.Round(c.pass, firstBlock(c.salt))
		want := bytes.Clone(u)
		for rounds := 1; rounds <= mostRounds; rounds++ {
			// All of them would take as many rounds as their number's square.
			if rounds < 40 || rounds%101 == 0 || rounds > mostRounds-3 {
				if got := kdf.Hash(c.pass, c.salt, rounds); !bytes.Equal(got, want) {
					t.Fatalf("%q in %d rounds: %x, want %x", c.pass, rounds, got, want)
				}
			}
			u = kdf.Round(c.pass, u)
			want = xored(want, u)
		}
	}
}

func TestNilAndEmptyAreOneThing(t *testing.T) {
	want := published(t, nil, nil, 2)
	for _, pass := range [][]byte{nil, {}} {
		for _, other := range [][]byte{nil, {}} {
			if got := kdf.Hash(pass, other, 2); !bytes.Equal(got, want) || !kdf.Right(pass, other, 2, want) {
				t.Errorf("Hash of nothing: %x, want %x", got, want)
			}
			if got := kdf.Round(pass, other); !bytes.Equal(got, code(nil, nil)) {
				t.Errorf("Round of nothing: %x", got)
			}
			if kdf.Right(pass, nil, 2, other) || kdf.Right(pass, nil, 0, other) {
				t.Error("Right of a hash of no bytes")
			}
		}
	}
}

// turned is each row that differs from b in one bit.
func turned(b []byte) [][]byte {
	var rows [][]byte
	for i := range b {
		for bit := range 8 {
			other := bytes.Clone(b)
			other[i] ^= 1 << bit
			rows = append(rows, other)
		}
	}
	return rows
}

// otherHashes is what is no hash of a password whose hash is given: of other lengths, or turned.
func otherHashes(hash []byte) [][]byte {
	rows := turned(hash)
	for n := range hash {
		rows = append(rows, bytes.Clone(hash[:n]), bytes.Clone(hash[n+1:]))
	}
	for _, more := range [][]byte{{0}, {1}, hash} {
		rows = append(rows, slices.Concat(hash, more), slices.Concat(more, hash))
	}
	return append(rows, nil, []byte{}, make([]byte, hashBytes), bytes.Repeat([]byte{255}, hashBytes))
}

func TestRightOfNoOtherHash(t *testing.T) {
	for _, rounds := range []int{1, 2, 5} {
		for _, pass := range [][]byte{nil, []byte("password"), row(64), row(65)} {
			hash := published(t, pass, []byte("salt"), rounds)
			if !kdf.Right(pass, []byte("salt"), rounds, hash) {
				t.Fatalf("Right of %q in %d rounds: false", pass, rounds)
			}
			for _, other := range otherHashes(hash) {
				if kdf.Right(pass, []byte("salt"), rounds, other) {
					t.Fatalf("Right of %q in %d rounds, %x", pass, rounds, other)
				}
			}
		}
	}
}

func TestRightOfNoOtherPasswordSaltOrRounds(t *testing.T) {
	pass, salt := "password", "salt"
	hash := published(t, []byte(pass), []byte(salt), 3)
	for _, other := range []string{"", "passwor", "passwore", "Password", "password ", " password", "drowssap", strings.Repeat("password", 9), salt} {
		if kdf.Right([]byte(other), []byte(salt), 3, hash) {
			t.Errorf("the password %q is right", other)
		}
	}
	for _, other := range []string{"", "sal", "salu", "salt ", " salt", "salt\x00", "salt\x00\x00\x00\x01", pass} {
		if kdf.Right([]byte(pass), []byte(other), 3, hash) {
			t.Errorf("the salt %q is right", other)
		}
	}
	for _, rounds := range []int{0, 1, 2, 3, 4, 5, 30, 259, 999, mostRounds, mostRounds + 1} {
		if kdf.Right([]byte(pass), []byte(salt), rounds, hash) != (rounds == 3) {
			t.Errorf("Right in %d rounds", rounds)
		}
	}
}

// Where there is no hash, nothing is right: neither a hash of no bytes, nor one of noughts, nor that of other rounds.
func TestRightOfTooFewAndTooManyRounds(t *testing.T) {
	pass, salt := []byte("password"), []byte("salt")
	hashes := [][]byte{
		nil, {}, {0}, make([]byte, hashBytes), code(pass, firstBlock(salt)),
		published(t, pass, salt, mostRounds), published(t, pass, salt, mostRounds+1),
	}
	for _, rounds := range badRounds() {
		for _, hash := range hashes {
			if kdf.Right(pass, salt, rounds, hash) || kdf.Right(nil, nil, rounds, hash) {
				t.Errorf("Right in %d rounds, %x", rounds, hash)
			}
		}
	}
	for _, rounds := range []int{1, mostRounds} {
		if !kdf.Right(pass, salt, rounds, published(t, pass, salt, rounds)) {
			t.Errorf("Right in %d rounds: false", rounds)
		}
	}
}

// No answer tells how long Right looked at a hash, so that its words are looked at: rows of bytes are
// held against each other by mac.Equal, and by no loop or library call that may end early.
func TestRightAsksEqual(t *testing.T) {
	f, err := parser.ParseFile(token.NewFileSet(), "kdf.go", nil, 0)
	if err != nil {
		t.Fatal(err)
	}
	at := slices.IndexFunc(f.Decls, func(d ast.Decl) bool {
		call, is := d.(*ast.FuncDecl)
		return is && call.Name.Name == "Right"
	})
	if at < 0 {
		t.Fatal("kdf.go has no function Right")
	}
	asks := 0
	ast.Inspect(f.Decls[at], func(n ast.Node) bool {
		switch x := n.(type) {
		case *ast.ForStmt, *ast.RangeStmt:
			t.Error("Right has a loop of its own")
		case *ast.SelectorExpr:
			from, is := x.X.(*ast.Ident)
			if !is || from.Name != "mac" || x.Sel.Name != "Equal" {
				t.Errorf("Right asks for %s", x.Sel.Name)
			}
			asks++
		}
		return true
	})
	if asks != 1 {
		t.Errorf("Right asks mac.Equal %d times, want 1", asks)
	}
}
