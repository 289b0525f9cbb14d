package mac_test

import (
	"bytes"
	"crypto/hmac"
	"crypto/sha256"
	"encoding/binary"
	"encoding/hex"
	"go/ast"
	"go/parser"
	"go/token"
	"math/rand"
	"slices"
	"strings"
	"testing"

	"wicketman/mac"
)

const codeBytes = 32

// row is n bytes that differ from their neighbours, none of the first 250 of which is a nought.
func row(n int) []byte {
	b := make([]byte, n)
	for i := range b {
		b[i] = byte(i%250 + 1)
	}
	return b
}

func bytesOf(t *testing.T, digits string) []byte {
	t.Helper()
	b, err := hex.DecodeString(digits)
	if err != nil {
		t.Fatal(err)
	}
	return b
}

// published is the code by Go's own library.
func published(key, msg []byte) []byte {
	h := hmac.New(sha256.New, key)
	h.Write(msg)
	return h.Sum(nil)
}

// idealCode is the chapter's sum by Go's own library.
func idealCode(ahead uint64, msg []byte) []byte {
	b := binary.BigEndian.AppendUint64([]byte("ideal"), ahead)
	s := sha256.Sum256(append(b, msg...))
	return s[:]
}

func keyLengths() []int {
	return []int{0, 1, 2, 31, 32, 33, 62, 63, 64, 65, 66, 127, 128, 129, 1000, 5000}
}

func messageLengths() []int {
	return []int{0, 1, 31, 32, 55, 56, 63, 64, 65, 119, 120, 1000}
}

// turned is each row that differs from b in one byte, or in one bit of it.
func turned(b []byte) [][]byte {
	var rows [][]byte
	for i := range b {
		for _, by := range []byte{1, 2, 4, 8, 16, 32, 64, 128, 255} {
			other := bytes.Clone(b)
			other[i] ^= by
			rows = append(rows, other)
		}
	}
	return rows
}

// otherCodes is what is no code of a message whose code is given: of other lengths, or turned.
func otherCodes(code []byte) [][]byte {
	rows := turned(code)
	for n := range code {
		rows = append(rows, bytes.Clone(code[:n]), bytes.Clone(code[n+1:]))
	}
	rows = append(rows, nil, []byte{})
	for _, more := range [][]byte{{0}, {1}, code} {
		rows = append(rows, slices.Concat(code, more), slices.Concat(more, code))
	}
	return append(rows, make([]byte, codeBytes), bytes.Repeat([]byte{255}, codeBytes))
}

func TestCodeOfTheChapter(t *testing.T) {
	want := "5bdcc146bf60754e6a042426089575c75a003f089d2739839dec58b964ec3843"
	got := hex.EncodeToString(mac.Code([]byte("Jefe"), []byte("what do ya want for nothing?")))
	if got != want {
		t.Errorf("%s, want %s", got, want)
	}
}

func TestCodesThatArePublished(t *testing.T) {
	great := strings.Repeat("aa", 131)
	for _, c := range []struct{ key, msg, want string }{
		{
			strings.Repeat("0b", 20), hex.EncodeToString([]byte("Hi There")),
			"b0344c61d8db38535ca8afceaf0bf12b881dc200c9833da726e9376c2e32cff7",
		},
		{
			strings.Repeat("aa", 20), strings.Repeat("dd", 50),
			"773ea91e36800e46854db8ebd09181a72959098b3ef8c122d9635514ced565fe",
		},
		{
			"0102030405060708090a0b0c0d0e0f10111213141516171819", strings.Repeat("cd", 50),
			"82558a389a443c0ea4cc819899f2083a85f0faa3e578f8077a2e3ff46729665b",
		},
		{
			great, hex.EncodeToString([]byte("Test Using Larger Than Block-Size Key - Hash Key First")),
			"60e431591ee0b67f0d8a26aacbf5b77f8e0bc6213728c5140546040f0ee37f54",
		},
		{
			great, hex.EncodeToString([]byte("This is a test using a larger than block-size key and a larger than block-size data. The key needs to be hashed before being used by the HMAC algorithm.")),
			"9b09ffa71b942fcb27635fbcd5b0e944bfdc63644f0713938a7f51535c3a35e2",
		},
		{"", "", "b613679a0814d9ec772f95d778c35fc5ff1697c493715653c6c712144292c5ad"},
	} {
		key, msg := bytesOf(t, c.key), bytesOf(t, c.msg)
		if got := hex.EncodeToString(mac.Code(key, msg)); got != c.want {
			t.Errorf("Code of %s, %s: %s, want %s", c.key, c.msg, got, c.want)
		}
		if got := hex.EncodeToString(mac.Real(key).Make(msg)); got != c.want {
			t.Errorf("Real of %s, Make of %s: %s, want %s", c.key, c.msg, got, c.want)
		}
	}
}

func TestCodeOfEveryLength(t *testing.T) {
	for _, k := range keyLengths() {
		for _, m := range messageLengths() {
			key, msg := row(k), row(m)
			want := published(key, msg)
			if got := mac.Code(key, msg); !bytes.Equal(got, want) {
				t.Errorf("a key of %d, a message of %d: %x, want %x", k, m, got, want)
			}
		}
	}
}

func TestCodeOfAnything(t *testing.T) {
	draw := rand.New(rand.NewSource(3))
	for range 2000 {
		key, msg := make([]byte, draw.Intn(140)), make([]byte, draw.Intn(200))
		draw.Read(key)
		draw.Read(msg)
		want := published(key, msg)
		if got := mac.Code(key, msg); !bytes.Equal(got, want) {
			t.Fatalf("Code of %x, %x: %x, want %x", key, msg, got, want)
		}
	}
}

// A key that is filled up is the same key; one of 65 bytes is its sum, and not its first 64.
func TestKeysThatAreOneKey(t *testing.T) {
	msg := []byte("a")
	for _, n := range []int{0, 1, 32, 63} {
		full := append(row(n), make([]byte, 64-n)...)
		if !bytes.Equal(mac.Code(row(n), msg), mac.Code(full, msg)) {
			t.Errorf("a key of %d bytes has another code than with noughts behind", n)
		}
	}
	if bytes.Equal(mac.Code(row(65), msg), mac.Code(row(64), msg)) {
		t.Error("a key of 65 bytes has the code of its first 64")
	}
	for _, n := range []int{65, 66, 128, 1000} {
		s := sha256.Sum256(row(n))
		if !bytes.Equal(mac.Code(row(n), msg), mac.Code(s[:], msg)) {
			t.Errorf("a key of %d bytes has another code than its sum", n)
		}
	}
	s := sha256.Sum256(row(64))
	if bytes.Equal(mac.Code(row(64), msg), mac.Code(s[:], msg)) {
		t.Error("a key of 64 bytes was summed")
	}
}

func TestNilAndEmptyAreOneThing(t *testing.T) {
	if !bytes.Equal(mac.Code(nil, nil), mac.Code([]byte{}, []byte{})) {
		t.Error("Code")
	}
	if !mac.Equal(nil, []byte{}) || !mac.Equal([]byte{}, nil) || !mac.Equal(nil, nil) {
		t.Error("Equal")
	}
	for name, m := range makers() {
		code := bytes.Clone(m.Make(nil))
		if !bytes.Equal(code, m.Make([]byte{})) || !m.Prove(nil, code) || !m.Prove([]byte{}, code) {
			t.Errorf("%s: a message of no bytes", name)
		}
	}
}

func TestEqual(t *testing.T) {
	for _, n := range []int{0, 1, 2, 31, 32, 33, 64, 255, 256, 257, 1000} {
		a := row(n)
		if !mac.Equal(a, row(n)) || !mac.Equal(a, a) {
			t.Errorf("%d bytes aren't equal to themselves", n)
		}
		for _, b := range turned(a) {
			if mac.Equal(a, b) || mac.Equal(b, a) {
				t.Fatalf("%x and %x are equal", a, b)
			}
		}
		for _, m := range []int{0, 1, 2, 31, 32, 33, 64, 255, 256, 257, 1000} {
			if n != m && mac.Equal(a, row(m)) {
				t.Errorf("%d bytes and the first %d of them are equal", max(n, m), min(n, m))
			}
		}
	}
}

// Differences that take each other back, by a sum or by an exclusive or, are differences.
func TestEqualOfSeveralThatDiffer(t *testing.T) {
	for _, c := range [][2][]byte{
		{{1, 2}, {2, 1}},
		{{0, 0}, {1, 1}},
		{{0, 0}, {1, 255}},
		{{0, 0}, {128, 128}},
		{{7, 7, 7}, {6, 7, 8}},
		{{0, 0, 0}, {1, 2, 3}},
		{bytes.Repeat([]byte{0}, 256), bytes.Repeat([]byte{1}, 256)},
		{bytes.Repeat([]byte{0}, 32), bytes.Repeat([]byte{255}, 32)},
	} {
		if mac.Equal(c[0], c[1]) || mac.Equal(c[1], c[0]) {
			t.Errorf("%v and %v are equal", c[0], c[1])
		}
	}
}

func TestSteps(t *testing.T) {
	for n := range 70 {
		for m := range 70 {
			want := 0
			if n == m {
				want = n
			}
			if got := mac.Steps(row(n), row(m)); got != want {
				t.Errorf("Steps of %d and %d bytes: %d, want %d", n, m, got, want)
			}
		}
	}
	if got := mac.Steps(nil, []byte{}); got != 0 {
		t.Errorf("Steps of nothing: %d", got)
	}
	if got := mac.Steps(make([]byte, 32, 64), make([]byte, 32)); got != 32 {
		t.Errorf("Steps counts what lies behind a length: %d", got)
	}
}

// What the bytes are, and where they first differ, changes no step.
func TestStepsAreOfLengthsAlone(t *testing.T) {
	a := row(codeBytes)
	for _, b := range turned(a) {
		if got := mac.Steps(a, b); got != codeBytes {
			t.Fatalf("Steps of %x, %x: %d", a, b, got)
		}
	}
}

// No answer tells how many pairs Equal looked at, so that the words of its loop are looked at: it
// must go over a number, and have no way out ahead of its end.
func TestEqualLooksAtAllPairs(t *testing.T) {
	f, err := parser.ParseFile(token.NewFileSet(), "mac.go", nil, 0)
	if err != nil {
		t.Fatal(err)
	}
	at := slices.IndexFunc(f.Decls, func(d ast.Decl) bool {
		call, is := d.(*ast.FuncDecl)
		return is && call.Recv == nil && call.Name.Name == "Equal"
	})
	if at < 0 {
		t.Fatal("mac.go has no function Equal")
	}
	loops := 0
	ast.Inspect(f.Decls[at], func(n ast.Node) bool {
		loop, is := n.(*ast.RangeStmt)
		if !is {
			return true
		}
		loops++
		ast.Inspect(loop.Body, func(n ast.Node) bool {
			switch n.(type) {
			case *ast.ReturnStmt, *ast.BranchStmt, *ast.IfStmt, *ast.SwitchStmt:
				t.Error("Equal's loop may end, or skip something, ahead of its end")
			}
			return true
		})
		return false
	})
	if loops != 1 {
		t.Errorf("Equal has %d loops over a range, want 1", loops)
	}
}

func TestRealMakesCodes(t *testing.T) {
	for _, k := range keyLengths() {
		m := mac.Real(row(k))
		for _, n := range messageLengths() {
			want := published(row(k), row(n))
			for range 2 {
				if got := m.Make(row(n)); !bytes.Equal(got, want) {
					t.Errorf("a key of %d, a message of %d: %x, want %x", k, n, got, want)
				}
			}
		}
	}
}

// A real Maker needs to have made nothing: whoever has the key proves what another one made.
func TestRealProves(t *testing.T) {
	for _, k := range keyLengths() {
		for _, n := range messageLengths() {
			m, msg := mac.Real(row(k)), row(n)
			if !m.Prove(msg, published(row(k), msg)) {
				t.Errorf("a key of %d, a message of %d: not proved", k, n)
			}
			if m.Prove(append(row(n), 1), published(row(k), msg)) {
				t.Errorf("a key of %d, a message of %d: another message proved", k, n)
			}
			if m.Prove(msg, published(append(row(k), 1), msg)) {
				t.Errorf("a key of %d, a message of %d: another key's code proved", k, n)
			}
		}
	}
	if !mac.Real(row(9)).Prove(row(5), mac.Real(row(9)).Make(row(5))) {
		t.Error("a code by the same key wasn't proved")
	}
}

func TestRealProvesNoOtherCode(t *testing.T) {
	for _, msg := range [][]byte{nil, []byte("a"), row(100)} {
		m := mac.Real([]byte("Jefe"))
		for _, code := range otherCodes(published([]byte("Jefe"), msg)) {
			if m.Prove(msg, code) {
				t.Fatalf("Prove of %x, %x", msg, code)
			}
		}
	}
}

func TestIdealMakes(t *testing.T) {
	m := mac.Ideal()
	for i, text := range []string{"a", "b", "", "ideal", "a\x00", strings.Repeat("c", 300)} {
		want := idealCode(uint64(i), []byte(text))
		if got := m.Make([]byte(text)); !bytes.Equal(got, want) {
			t.Errorf("message %d: %x, want %x", i, got, want)
		}
	}
}

// A message that was made is no new one: it has its code again, and the next one's count is as it was.
func TestIdealMakesAgain(t *testing.T) {
	m := mac.Ideal()
	for i, c := range []struct {
		text  string
		ahead uint64
	}{
		{"a", 0}, {"a", 0}, {"b", 1}, {"a", 0}, {"a", 0}, {"b", 1}, {"c", 2}, {"b", 1}, {"a", 0}, {"", 3}, {"c", 2}, {"", 3}, {"d", 4},
	} {
		want := idealCode(c.ahead, []byte(c.text))
		if got := m.Make([]byte(c.text)); !bytes.Equal(got, want) {
			t.Errorf("asked the time %d, for %q: %x, want %x", i, c.text, got, want)
		}
	}
}

// Counts of more than one byte stand with the greatest byte first.
func TestIdealMakesMany(t *testing.T) {
	const many = 70000
	m := mac.Ideal()
	msg := func(i int) []byte { return binary.BigEndian.AppendUint32(nil, uint32(i)) }
	for i := range many {
		if got := m.Make(msg(i)); !bytes.Equal(got, idealCode(uint64(i), msg(i))) {
			t.Fatalf("message %d: %x", i, got)
		}
	}
	for _, i := range []int{0, 1, 255, 256, 257, 65535, 65536, many - 1} {
		if !bytes.Equal(m.Make(msg(i)), idealCode(uint64(i), msg(i))) || !m.Prove(msg(i), idealCode(uint64(i), msg(i))) {
			t.Errorf("message %d is another one now", i)
		}
	}
}

func TestIdealProvesWhatItMade(t *testing.T) {
	m := mac.Ideal()
	messages := [][]byte{[]byte("a"), []byte("b"), nil, row(100), row(101)}
	var codes [][]byte
	for _, msg := range messages {
		codes = append(codes, bytes.Clone(m.Make(msg)))
	}
	for i, msg := range messages {
		for j, code := range codes {
			if got := m.Prove(msg, code); got != (i == j) {
				t.Errorf("Prove of message %d, code %d: %v", i, j, got)
			}
		}
		for _, code := range otherCodes(codes[i]) {
			if m.Prove(msg, code) {
				t.Fatalf("Prove of message %d, %x", i, code)
			}
		}
	}
}

// A code that is right, but was never made, isn't proved; nor does Prove make anything.
func TestIdealProvesNothingElse(t *testing.T) {
	m := mac.Ideal()
	for range 2 {
		for _, text := range []string{"", "a", "b"} {
			for ahead := range uint64(3) {
				if m.Prove([]byte(text), idealCode(ahead, []byte(text))) {
					t.Errorf("%q was proved, and never made", text)
				}
			}
			if m.Prove([]byte(text), nil) || m.Prove([]byte(text), make([]byte, codeBytes)) {
				t.Errorf("%q was proved by nothing", text)
			}
		}
	}
	if got := m.Make([]byte("b")); !bytes.Equal(got, idealCode(0, []byte("b"))) {
		t.Errorf("Prove counted as Make: %x", got)
	}
	if m.Prove([]byte("a"), idealCode(1, []byte("a"))) || m.Prove([]byte("a"), idealCode(0, []byte("a"))) {
		t.Error("a code was proved ahead of being made")
	}
	m.Make([]byte("a"))
	if !m.Prove([]byte("a"), idealCode(1, []byte("a"))) || m.Prove([]byte("a"), idealCode(0, []byte("a"))) {
		t.Error("just what was made must be proved")
	}
}

// Whatever is asked in whatever order, an ideal Maker tells what a plain list of what it made tells.
func TestIdealByAnything(t *testing.T) {
	draw := rand.New(rand.NewSource(8))
	for range 50 {
		m := mac.Ideal()
		var made []string
		for range 200 {
			text := strings.Repeat("x", draw.Intn(4)) + string(rune('a'+draw.Intn(6)))
			at := slices.Index(made, text)
			guess := idealCode(uint64(draw.Intn(24)), []byte(text))
			if draw.Intn(2) == 0 {
				want := at >= 0 && bytes.Equal(guess, idealCode(uint64(at), []byte(text)))
				if m.Prove([]byte(text), guess) != want {
					t.Fatalf("Prove of %q, want %v", text, want)
				}
				continue
			}
			if at < 0 {
				at = len(made)
				made = append(made, text)
			}
			if got := m.Make([]byte(text)); !bytes.Equal(got, idealCode(uint64(at), []byte(text))) {
				t.Fatalf("Make of %q: %x", text, got)
			}
		}
	}
}

func TestMakersKnowNothingOfEachOther(t *testing.T) {
	one, two := mac.Ideal(), mac.Ideal()
	one.Make([]byte("a"))
	one.Make([]byte("b"))
	code := one.Make([]byte("c"))
	if two.Prove([]byte("c"), code) || two.Prove([]byte("a"), idealCode(0, []byte("a"))) {
		t.Error("an ideal Maker proved what another one made")
	}
	if got := two.Make([]byte("c")); !bytes.Equal(got, idealCode(0, []byte("c"))) {
		t.Errorf("an ideal Maker counted what another one made: %x", got)
	}
	if !one.Prove([]byte("c"), code) || one.Prove([]byte("c"), idealCode(0, []byte("c"))) {
		t.Error("an ideal Maker knows what another one made")
	}
	left, right := mac.Real([]byte("left")), mac.Real([]byte("right"))
	code = left.Make([]byte("a"))
	if right.Prove([]byte("a"), code) || !left.Prove([]byte("a"), code) {
		t.Error("a real Maker proved what another key made")
	}
	if one.Prove([]byte("a"), code) || left.Prove([]byte("a"), idealCode(0, []byte("a"))) {
		t.Error("a Maker of one type proved what the other type made")
	}
}

// Makers are held against each other by ==, which would panic for a type with a list in it.
func TestMakersMayBeCompared(t *testing.T) {
	one, two := mac.Ideal(), mac.Ideal()
	if one == two || one != one {
		t.Error("ideal Makers")
	}
	if left, right := mac.Real([]byte("left")), mac.Real([]byte("right")); left == right || left == one {
		t.Error("real Makers")
	}
}
