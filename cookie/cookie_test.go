package cookie_test

import (
	"slices"
	"strings"
	"testing"

	"wicketman/api"
	"wicketman/cookie"
)

const (
	id      = "__Host-id"
	tail    = "; Path=/; Secure; HttpOnly; SameSite=Strict"
	mostAge = 999999999
)

// every is each byte there is, once.
func every() []byte {
	b := make([]byte, 256)
	for i := range b {
		b[i] = byte(i)
	}
	return b
}

// one is the text of one byte.
func one(c byte) string { return string([]byte{c}) }

// of is a text of n bytes, all of them an 'x'.
func of(n int) string { return strings.Repeat("x", n) }

// pairs are pairs of a name, its value, the next name, its value, ..
func pairs(words ...string) []api.Pair {
	var l []api.Pair
	for i := 0; i < len(words); i += 2 {
		l = append(l, api.Pair{Name: words[i], Value: words[i+1]})
	}
	return l
}

// inName says whether a name may have that byte.
func inName(c byte) bool {
	return c >= '0' && c <= '9' || c >= 'A' && c <= 'Z' || c >= 'a' && c <= 'z' || strings.IndexByte("!#$%&'*+-.^_`|~", c) >= 0
}

// inValue says whether a value may have that byte, as the chapter lists them.
func inValue(c byte) bool {
	return c == 0x21 || c >= 0x23 && c <= 0x2b || c >= 0x2d && c <= 0x3a || c >= 0x3c && c <= 0x5b || c >= 0x5d && c <= 0x7e
}

// all says whether each byte of a text may be.
func all(s string, may func(byte) bool) bool {
	for i := range len(s) {
		if !may(s[i]) {
			return false
		}
	}
	return true
}

func isName(s string) bool { return s != "" && all(s, inName) }

func isValue(s string) bool { return all(s, inValue) }

func askParse(t *testing.T, value string, words ...string) {
	t.Helper()
	if got, ok := cookie.Parse(value); !ok || !slices.Equal(got, pairs(words...)) {
		t.Errorf("Parse of %q: %q, %v, want %q, true", value, got, ok, words)
	}
}

func refuses(t *testing.T, value string) {
	t.Helper()
	if got, ok := cookie.Parse(value); len(got) != 0 || ok {
		t.Errorf("Parse of %q: %q, %v, want nothing, false", value, got, ok)
	}
}

func askSession(t *testing.T, want string, values ...string) {
	t.Helper()
	if got, ok := cookie.Session(values); got != want || !ok {
		t.Errorf("Session of %q: %q, %v, want %q, true", values, got, ok, want)
	}
}

func hasNoSession(t *testing.T, values ...string) {
	t.Helper()
	if got, ok := cookie.Session(values); got != "" || ok {
		t.Errorf("Session of %q: %q, %v, want nothing, false", values, got, ok)
	}
}

func askSet(t *testing.T, name, value string, age int, want string) {
	t.Helper()
	if got, e := cookie.Set(api.Pair{Name: name, Value: value}, age); got != want || e != api.OK {
		t.Errorf("Set of %q, %q, %d: %q, %v, want %q, OK", name, value, age, got, e, want)
	}
}

func setsNothing(t *testing.T, name, value string, age int) {
	t.Helper()
	if got, e := cookie.Set(api.Pair{Name: name, Value: value}, age); got != "" || e != api.ErrArg {
		t.Errorf("Set of %q, %q, %d: %q, %v, want nothing, ErrArg", name, value, age, got, e)
	}
}

func askRead(t *testing.T, s, name, value string, age int) {
	t.Helper()
	if got, n, ok := cookie.Read(s); got.Name != name || got.Value != value || n != age || !ok {
		t.Errorf("Read of %q: %q, %d, %v, want %q, %q, %d, true", s, got, n, ok, name, value, age)
	}
}

func readsNothing(t *testing.T, s string) {
	t.Helper()
	if got, n, ok := cookie.Read(s); got != (api.Pair{}) || n != 0 || ok {
		t.Errorf("Read of %q: %q, %d, %v, want nothing, 0, false", s, got, n, ok)
	}
}

func TestTheChapter(t *testing.T) {
	askSession(t, "5", "a=1; __Host-id=5")
	hasNoSession(t, "a=1; __Host-id=5", "a=1; __Host-id=5")
	hasNoSession(t, "a=1; __Host-id=5; a=1; __Host-id=5")
	if cookie.Name != "__Host-id" {
		t.Errorf("Name is %q", cookie.Name)
	}
	var name string = cookie.Name // a constant that is a text
	if !cookie.Prefix(name, true, "/", false) {
		t.Error("the session's cookie does not bear its own front")
	}
}
